/- The law ArmapReads, walked: any bytes, and any entries' index, are read as the document says. -/
import Derived.Test.YteknmlcgdjoccaaArmKeep
import Derived.Deep.RegionWith
import Derived.Laws.BitsAllLaws
import Derived.RegionTactic
namespace Go.Proofs.Yteknmlcgdjoccaa
open Go.RowKit Go.Maps
set_option linter.unusedVariables false
set_option maxRecDepth 20000
set_option linter.unusedSimpArgs false

theorem xor_by (a b : Nat) (ha : a ≤ 255) (hb : b ≤ 255) : 0 ≤ bits .xor .u8 (a : Int) (b : Int) ∧ bits .xor .u8 (a : Int) (b : Int) ≤ 255 := by
  have h := u8_xor_nat a b (by omega) (by omega)
  have h2 : a ^^^ b < 2 ^ 8 := Nat.xor_lt_two_pow (by omega) (by omega)
  omega

set_option maxHeartbeats 8000000 in
theorem armreads_walk (a1 : Option Addr) (cap1 : Nat) (raw : T8) (a : Option Addr) (n cap : Nat) (l : List En) (count : Int) (at' x : Nat) (w : World) (r1 : Rt w a1 cap1 raw) (r : Ren w a n cap l) (hc0 : -9223372036854775808 ≤ count) (hc1 : count ≤ 9223372036854775807) (hat : at' ≤ 65535) (hx : x ≤ 255) :
    Calls Try.prog 3 #[.slice a1 raw.length cap1, .slice a n cap, .int .i64 count, .int .u16 (at' : Int), .int .u8 (x : Int)] w fun e w' => e = .returned (.bool true) ∧ Below w.heap.size w w' := by
  obtain ⟨i8, hi8, hz80, hz81, hz82⟩ := info_parts Try.info8
  have hl := r.length
  have hle := r.le
  have hmx := r.max
  have hle1 := r1.le
  have hmx1 := r1.max
  have HR := hide r
  have HR1 := hide r1
  have HK := hide (known_18 w)
  clear r r1
  by_cases h300 : 300 < raw.length
  · have hd : decide ((300 : Int) < (raw.length : Int)) = true := decide_eq_true (by omega)
    go_enter Try.func3, Try.ntmps3
    go_wp2_with fail
    refine HK.out.mono ?_
    rintro e wk ⟨rfl, hbk⟩
    have HBK := hide hbk
    clear hbk
    go_wp2_with fail
    go_ret
    exact ⟨rfl, HBK.out⟩
  have hd : decide ((300 : Int) < (raw.length : Int)) = false := decide_eq_false (by omega)
  by_cases h12 : 12 < n
  · have hd2 : decide ((12 : Int) < (n : Int)) = true := decide_eq_true (by omega)
    go_enter Try.func3, Try.ntmps3
    go_wp2_with fail
    refine HK.out.mono ?_
    rintro e wk ⟨rfl, hbk⟩
    have HBK := hide hbk
    clear hbk
    go_wp2_with fail
    go_ret
    exact ⟨rfl, HBK.out⟩
  have hd2 : decide ((12 : Int) < (n : Int)) = false := decide_eq_false (by omega)
  go_enter Try.func3, Try.ntmps3
  go_wp2_with fail
  refine HK.out.mono ?_
  rintro e wk ⟨rfl, hbk⟩
  have HBK := hide hbk
  have hszk := hbk.size
  clear hbk HK
  go_wp2_with fail
  go_loopg [11] n (fun gg i wr => ∃ k : Nat, k ≤ n ∧ gg = n - k ∧ i = .int .i64 (k : Int) ∧ wr = wk ∧ Hid (∀ e ∈ l.take k, e.nm.length ≤ 50))
  case atStart => exact ⟨0, by omega, rfl, rfl, rfl, fun e he => by simp at he⟩
  case round =>
    obtain ⟨k, hk, rfl, rfl, rfl, HA⟩ := hrel
    by_cases hlt : k < n
    · have hlt' : (k : Int) < (n : Int) := by omega
      obtain ⟨t, ht⟩ : ∃ t, l[k]? = some t := ⟨_, List.getElem?_eq_getElem (by omega)⟩
      obtain ⟨b2, o2, rfl, hc2⟩ := Ren.addr (Rr.below HR.out HBK.out) (by omega)
      obtain ⟨c0, c1⟩ := hc2 k t ht
      have hok := (Rr.ok HR.out) t (List.mem_of_getElem? ht)
      have hokn := hok.nm
      have hsz := str_size t.nm
      have htk : l.take (k + 1) = l.take k ++ [t] := by rw [List.take_add_one, ht]; rfl
      have HTK := hide htk
      clear hc2 ht htk hok
      by_cases h50 : 50 < t.nm.length
      · have hd6 : decide ((50 : Int) < (t.nm.length : Int)) = true := decide_eq_true (by omega)
        have hd6b : decide (50 < t.nm.length) = true := decide_eq_true (by omega)
        generalize str t.nm = S at *
        go_wp2_with fail
        go_ret
        exact ⟨rfl, HBK.out⟩
      have hd6 : decide ((50 : Int) < (t.nm.length : Int)) = false := decide_eq_false (by omega)
      have hd6b : decide (50 < t.nm.length) = false := decide_eq_false (by omega)
      have HA2 : Hid (∀ e ∈ l.take (k + 1), e.nm.length ≤ 50) := fun e he => by
        rw [HTK.out] at he
        rcases List.mem_append.1 he with h | h
        · exact HA.out e h
        · rw [List.mem_singleton.1 h]; omega
      clear HA HTK
      generalize str t.nm = S at *
      go_wp2_with fail
      go_roundg (n - (k + 1))
      case measure => omega
      case rel => exact ⟨k + 1, by omega, rfl, by go_num, rfl, HA2.out⟩
    · obtain rfl : k = n := by omega
      have hall : l.take k = l := List.take_of_length_le (by omega)
      rw [hall] at HA
      have hT := ixT_le l 50 HA.out
      have hk12 : k ≤ 12 := by omega
      have hTb : ixT l ≤ 612 := by rw [hl] at hT; omega
      have hlenB : (ixB l).length = 4 + (4 * k + ixT l) := by unfold ixB; rw [List.length_append, List.length_append, be4_len, ixM_len, ixN_len, hl]
      have HWA := hide (ixbytes_any a k cap l wr (Rr.below HR.out HBK.out) (by omega) (by omega))
      have HWB := hide (fun W (hb : Below w.heap.size w W) => rixbytes_any a k cap l W (Rr.below HR.out hb) (by omega) (by omega))
      generalize hBB : ixB l = BB at *
      obtain ⟨LL, hLL⟩ : ∃ LL, BB.length = LL := ⟨_, rfl⟩
      rw [hLL] at hlenB
      have hL5 : 4 ≤ LL ∧ LL ≤ 2000 := by omega
      clear HA hT hTb hlenB hd hd2 hBB hall
      go_wp2_with fail
      refine HWA.out.mono ?_
      rintro e W1 ⟨v8, rfl, hp⟩
      obtain ⟨a8, c8, hv8, hrt⟩ := hp.rt
      have hc8 := hrt.le
      have hm8 := hrt.max
      have HRT := hide hrt
      have HB3 := hide (HBK.out.trans (hp.bel.mono hszk))
      have z1 := HB3.out.size
      rw [hLL] at hv8 hc8
      subst hv8
      have s0 := Rt.txt (show Rt W1.drew a8 c8 BB from Rd.below hrt ((Below.refl W1.heap.size W1).drew)) LL hLL
      have hq := strq_yes (str BB)
      clear HWA hp hrt
      go_upto_region 11 with fail
      go_cut [50] (fun u wx => u = .bool false ∧ Hid (Below W1.heap.size W1 wx))
      case first =>
        go_region_with (first
          | (go_at_call 8; refine (HWB.out _ (HB3.out.trans (((Below.refl W1.heap.size W1).drew).mono z1))).mono ?_; rintro e W3 ⟨v3, rfl, p3⟩; obtain ⟨a4, c4, hv4, r4⟩ := p3.rt; rw [hLL] at hv4; subst hv4; have b3 := (Below.refl W1.heap.size W1).drew.trans p3.bel; have s3 := Rt.txt (show Rt W3 a8 c8 BB from Rd.below HRT.out b3) LL hLL; have s4 := Rt.txt r4 LL hLL; have B3 := hide b3; clear p3 r4 b3 s0))
        all_goals
          go_wp2
          go_meet
          case rel => exact ⟨rfl, B3⟩
      case rest =>
        obtain ⟨rfl, BC⟩ := hcut
        have HB4 := hide (HB3.out.trans (BC.out.mono z1))
        have z4 := HB4.out.size
        have HRT4 := hide (show Rt wc a8 c8 BB from Rd.below HRT.out BC.out)
        clear s0 hq HWB HRT BC HB3 z1
        obtain ⟨p, hp⟩ : ∃ p : Nat, at' % LL = p := ⟨_, rfl⟩
        have hp1 : p < LL := by rw [← hp]; exact Nat.mod_lt _ (by omega)
        have hp2 : (at' : Int).tmod (LL : Int) = (p : Int) := by rw [Int.tmod_eq_emod_of_nonneg (by omega), ← hp]; rfl
        have hp3 : (at' : Int) % (LL : Int) = (p : Int) := by rw [← hp]; rfl
        have hln0 : ¬ (LL : Int) = 0 := by omega
        obtain ⟨b8, o8, rfl, _⟩ := Rt.addr HRT4.out (by omega)
        go_upto_region 14 with (at_builtin; refine wpList_pb_row (w := wc) rfl _ _ rfl _ [] BB LL c8 ⟨b8, o8, none⟩ hLL rfl rfl (PB.nil wc) HRT4.out (by omega) (by simp; omega) ?_; intro v13 W13 h13; refine Hid.out ?_)
        refine hide ?_
        rw [List.nil_append] at h13
        have HB13 := hide (HB4.out.trans (h13.bel.mono z4))
        have hR8 := Rd.below HRT4.out h13.bel
        obtain ⟨g, c13, hv13, hgl⟩ : ∃ g c13, v13 = .slice (some ⟨g, 0, none⟩) LL c13 ∧ wc.heap.size ≤ g := by
          rcases h13.own.2 with ⟨_, h3⟩ | ⟨g, c, cur, h3, h4, _⟩
          · omega
          · exact ⟨g, c, by rw [h3, hLL], h4⟩
        subst hv13
        have O13 := h13.own
        rw [hLL] at O13
        obtain ⟨a9, c9, hv9, r9⟩ := h13.rt
        rw [hLL] at hv9
        cases hv9
        have hc9 := r9.le
        rw [hLL] at hc9
        have hm9 := r9.max
        have hcell0 := O13.cellAt p (by omega)
        have hfz := O13.frozenAt p
        have hcell : W13.cell? ⟨g, p, none⟩ = some (.int .u8 (((BB.getD p 0).toNat : Nat) : Int)) := by
          rw [hcell0]
          have : p < BB.length := by omega
          simp [cs8, nI, this]
        obtain ⟨u, hu⟩ : ∃ u, (BB.getD p 0).toNat = u := ⟨_, rfl⟩
        have hub : u ≤ 255 := by rw [← hu]; have := (BB.getD p 0).toNat_lt; omega
        rw [hu] at hcell
        obtain ⟨q, hq⟩ : ∃ q, bits .xor .u8 (u : Int) (x : Int) = q := ⟨_, rfl⟩
        have hqb := xor_by u x hub hx
        rw [hq] at hqb
        obtain ⟨y, hy⟩ : ∃ y : UInt8, ((y.toNat : Nat) : Int) = q := ⟨UInt8.ofNat q.toNat, by simp; omega⟩
        have hst := O13.stored p (.int .u8 q)
        have hcs : (cs8 BB).set p (.int .u8 q) = cs8 (BB.set p y) := by simp [cs8, nI, ← hy]
        rw [hcs] at hst
        have hl14 : (BB.set p y).length = LL := by rw [List.length_set, hLL]
        have hRc : Hid (Rt (W13.setCell ⟨g, p, none⟩ (.int .u8 q)) (some ⟨g, 0, none⟩) c13 (BB.set p y)) := by
          obtain ⟨a6, k6, hv6, r6⟩ := Rd.own (bs := nI (BB.set p y)) hst.1 (nI_bytes _)
          cases hv6
          show Rd _ _ _ _ _
          rw [hl14]
          exact r6
        have hB14 : Below wc.heap.size wc (W13.setCell ⟨g, p, none⟩ (.int .u8 q)) := h13.bel.setCell (p := ⟨g, p, none⟩) hgl _
        have HB14 := hide (HB4.out.trans (hB14.mono z4))
        have HR14 := hide (show Rt _ _ _ BB from Rd.below HRT4.out hB14)
        have HRr := hide (show Rt _ a1 cap1 raw from Rd.below HR1.out HB14.out)
        clear h13 hR8 O13 r9 hcell0 hst hcs hu HRT4 HB13 HB4 hB14 hy hqb hp HR HR1 HBK
        go_upto_region 16 with fail
        clear hq hcell hfz
        have hsz14 : (W13.setCell ⟨g, p, none⟩ (.int .u8 q)).heap.size = W13.heap.size := by simp
        generalize W13.setCell ⟨g, p, none⟩ (.int .u8 q) = W14 at *
        have b5 := (Below.refl W14.heap.size W14).alloc (Nat.le_refl _) (.cells #[.slice a1 raw.length cap1, .slice (some ⟨b8, o8, none⟩) LL c8, .slice (some ⟨g, 0, none⟩) LL c13] 22)
        have X5 := heap_alloc_new W14 (.cells #[.slice a1 raw.length cap1, .slice (some ⟨b8, o8, none⟩) LL c8, .slice (some ⟨g, 0, none⟩) LL c13] 22)
        obtain ⟨Y, hY⟩ : ∃ Y, W13.heap.size = Y := ⟨_, rfl⟩
        have HB5 := hide (HB14.out.trans (b5.mono HB14.out.size))
        have HR5 := hide (show Rt _ _ _ BB from Rd.below HR14.out b5)
        have HRr5 := hide (show Rt _ a1 cap1 raw from Rd.below HRr.out b5)
        have HRc5 := hide (show Rt _ _ _ (BB.set p y) from Rd.below hRc.out b5)
        generalize W14.alloc (.cells #[.slice a1 raw.length cap1, .slice (some ⟨b8, o8, none⟩) LL c8, .slice (some ⟨g, 0, none⟩) LL c13] 22) = V at *
        rw [hsz14] at X5
        rw [hY] at X5 ⊢
        have HX := hide X5
        have hYV := (Array.getElem?_eq_some_iff.1 X5).1
        have z5 := HB5.out.size
        clear hsz14 hY b5 X5 HB14 HR14 HRr hRc
        have EL : Hid (∀ (j : Nat) (W : World), j < 3 → Below V.heap.size V W → ∃ (ay : Option Addr) (ly : Nat) (cy : Nat) (L : T8), W.cell? ⟨Y, j, none⟩ = some (.slice ay ly cy) ∧ L.length = ly ∧ Rt W ay cy L) := by
          intro j W hj hb
          have hx := (hb.block Y hYV).trans HX.out
          rcases (show j = 0 ∨ j = 1 ∨ j = 2 by omega) with rfl | rfl | rfl
          · exact ⟨a1, _, cap1, raw, by rw [cell_of_row _ _ 0 _ _ (0, 0) hx]; rfl, rfl, Rd.below HRr5.out hb⟩
          · exact ⟨_, LL, c8, BB, by rw [cell_of_row _ _ 1 _ _ (0, 0) hx]; rfl, hLL, Rd.below HR5.out hb⟩
          · exact ⟨_, LL, c13, BB.set p y, by rw [cell_of_row _ _ 2 _ _ (0, 0) hx]; rfl, hl14, Rd.below HRc5.out hb⟩
        clear HX HR5 HRr5 HRc5 hl14 hLL hp1 hp2 hp3 hln0 hub hgl hc8 hm8 hm9 hc9
        go_loopg [15, 16, 17, 18, 19, 69] 3 (fun gg s15 s16 s17 s18 s19 i wr => ∃ j : Nat, j ≤ 3 ∧ gg = 3 - j ∧ i = .int .i64 (j : Int) ∧ Hid (Below V.heap.size V wr))
        case atStart => exact ⟨0, by omega, rfl, rfl, Below.refl _ _⟩
        case round =>
          obtain ⟨j, hj, rfl, rfl, BK⟩ := hrel
          have zk := BK.out.size
          by_cases hlt2 : j < 3
          · have hltd : decide ((j : Int) < 3) = true := decide_eq_true (by omega)
            obtain ⟨ay, ly, cy, L, hce, hly, hry⟩ := EL.out j _ hlt2 BK.out
            have HRY := hide hry
            have PA := hide (ixparse_any ay cy L _ hry count hc0 hc1)
            rw [hly] at PA
            have hyle := hry.le
            have hymx := hry.max
            obtain ⟨o, ho⟩ : ∃ o, ixO L count = o := ⟨_, rfl⟩
            rw [ho] at PA
            have HO := hide ho
            clear hry ho
            go_wp2_with fail
            refine PA.out.mono ?_
            rintro e W5 ⟨b6, hp5⟩
            have PB2 := hide (rindex_any ay cy L W5 (Rd.below HRY.out b6) count hc0 hc1)
            rw [hly, HO.out] at PB2
            have HB6 := hide (BK.out.trans (b6.mono zk))
            clear PA HRY hce
            have z6 := HB6.out.size
            cases o with
            | none =>
              obtain rfl : e = .returned (.tuple #[.slice none 0 0, .int .i64 41]) := hp5
              clear b6
              go_wp2_with fail
              refine PB2.out.mono ?_
              rintro e W6 ⟨b7, hp6⟩
              obtain rfl : e = .returned (.tuple #[.slice none 0 0, .int .i64 41]) := hp6
              have HB7 := hide (HB6.out.trans (b7.mono z6))
              have HS := hide (strs_eq none 0 0 [] none 0 W6 ⟨rfl, Nat.le_refl _, by omega, fun _ => rfl, fun x hx => by cases hx⟩ ⟨rfl, Nat.le_refl _, by omega, fun _ => rfl, fun x hx => by cases hx⟩)
              have z7 := HB7.out.size
              clear b7 PB2 HB6
              go_wp2_with fail
              refine HS.out.mono ?_
              rintro e W7 ⟨rfl, b8'⟩
              have HB8 := hide (HB7.out.trans (b8'.mono z7))
              clear b8' HS HB7
              go_wp2_with fail
              go_roundg (3 - (j + 1))
              case measure => omega
              case rel => exact ⟨j + 1, by omega, rfl, by go_num, HB8.out⟩
            | some ns =>
              obtain ⟨v5, rfl, ho5⟩ := hp5
              obtain ⟨a5, c5, hv5, r5⟩ := Rs.own ho5
              subst hv5
              have HR5 := hide r5
              have hr5 := r5.le
              clear b6 r5 ho5
              go_wp2_with fail
              refine PB2.out.mono ?_
              rintro e W6 ⟨b7, hp6⟩
              obtain ⟨v6, rfl, ho6⟩ := hp6
              obtain ⟨a6, c6, hv6, r6⟩ := Rs.own ho6
              subst hv6
              have HB7 := hide (HB6.out.trans (b7.mono z6))
              have HS := hide (strs_eq _ _ _ _ _ _ _ (HR5.out.below b7) r6)
              have hr6 := r6.le
              have z7 := HB7.out.size
              clear b7 PB2 HB6 HR5 r6 ho6
              go_wp2_with fail
              refine HS.out.mono ?_
              rintro e W7 ⟨rfl, b8'⟩
              have HB8 := hide (HB7.out.trans (b8'.mono z7))
              clear b8' HS HB7
              go_wp2_with fail
              go_roundg (3 - (j + 1))
              case measure => omega
              case rel => exact ⟨j + 1, by omega, rfl, by go_num, HB8.out⟩
          · obtain rfl : j = 3 := by omega
            have HB9 := hide (HB5.out.trans (BK.out.mono z5))
            clear EL BK
            go_wp2_with fail
            go_ret
            exact ⟨rfl, HB9.out⟩

end Go.Proofs.Yteknmlcgdjoccaa
