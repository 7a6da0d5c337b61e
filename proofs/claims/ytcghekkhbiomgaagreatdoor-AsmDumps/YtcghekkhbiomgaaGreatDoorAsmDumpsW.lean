/- The walk of AsmDumps: bytes are told word by word, and a dump's lines are the words that it was. -/
import Derived.Test.YtcghekkhbiomgaaGreatDoorAsmPut
namespace Go.Proofs.YtcghekkhbiomgaaGreatDoor
open Go.RowKit
set_option linter.unusedVariables false
set_option maxRecDepth 100000
set_option linter.unusedSimpArgs false

/-- A row of the call's own, read. -/
theorem own_read {k : IntKind} {w : World} {base : Nat} {e : TypeId} {v : Value} {n : Nat} {xs : List Int} (h : w.ownsRow base e 1 v n (xs.map (Value.int k))) :
    n ≤ 9223372036854775807 ∧ ∃ a cap, v = .slice a n cap ∧ ∀ i, i < n → ∃ b, a = some ⟨b, 0, none⟩ ∧ w.cell? ⟨b, i, none⟩ = some (.int k (xs.getD i 0)) := by
  have hl : xs.length = n := by simpa using h.1
  rcases h.2 with ⟨rfl, h2⟩ | ⟨g, cap, cur, rfl, hbg, hg, hnc, hcm, hcs, htake⟩
  · exact ⟨by omega, none, 0, by rw [h2], fun i hi => by omega⟩
  · refine ⟨by unfold maxLen at hcm; omega, _, cap, rfl, fun i hi => ⟨g, rfl, ?_⟩⟩
    have := h.cells (g := g) rfl i (.int k (xs.getD i 0)) (by simp [show i < xs.length by omega])
    have e : (⟨g, 0, none⟩ : Addr).add i = ⟨g, i, none⟩ := by unfold Addr.add; split <;> simp_all
    rw [← e]
    exact this

set_option maxHeartbeats 25600000 in
theorem dumps_walk (a0 : Option Addr) (len0 cap0 : Nat) (bs : List Int) (a1 : Option Addr) (len1 cap1 : Nat) (xs : List Int) (w : World) (hL : LaidA w) (r0 : Rn .u8 255 w a0 len0 cap0 bs) (r1 : Rn .u32 4294967295 w a1 len1 cap1 xs) :
    Calls Tryz.prog 6 #[.slice a0 len0 cap0, .slice a1 len1 cap1] w fun e w' => e = .returned (.bool true) ∧ Below w.heap.size w w' := by
  have HK := hide (fun w h => known_any5 w h)
  have HL := hide hL
  have hle0 := r0.le
  have hmx0 := r0.max
  have hle1 := r1.le
  have hmx1 := r1.max
  by_cases h300 : 300 < len0
  · have h300' : (300 : Int) < len0 := by omega
    clear r0 r1 hL
    go_enter Tryz.func6, Tryz.ntmps6
    go_wp2_with fail
    refine (HK.out _ HL.out).mono ?_
    rintro e W1 ⟨rfl, b1⟩
    have HB1 := hide b1
    clear b1
    go_wp2
    go_ret
    exact ⟨rfl, HB1.out⟩
  · have h300' : ¬ (300 : Int) < len0 := by omega
    by_cases h40 : 40 < len1
    · have h40' : (40 : Int) < len1 := by omega
      clear r0 r1 hL
      go_enter Tryz.func6, Tryz.ntmps6
      go_wp2_with fail
      refine (HK.out _ HL.out).mono ?_
      rintro e W1 ⟨rfl, b1⟩
      have HB1 := hide b1
      clear b1
      go_wp2
      go_ret
      exact ⟨rfl, HB1.out⟩
    · have h40' : ¬ (40 : Int) < len1 := by omega
      obtain ⟨i0, hi, hz0, hz1, hz2'⟩ := info_parts infoU32
      have HR0 := hide r0
      have HR1 := hide r1
      have HD := hide (fun w r h => dump_any a0 len0 cap0 bs w r (by omega) h)
      have HRD := hide (fun w r => rdump_any a0 len0 cap0 bs w r (by omega))
      have HDD := hide (fun a len cap bs w r hl h => dump_any a len cap bs w r hl h)
      have HLi := hide (fun l w hl h => lines_any l w hl h)
      have HPu := hide (fun v len bs x w' hO hB hx hx' hl => rput4 w.heap.size v len bs x w' hO hB hx hx' hl)
      have HDc := hide (fun x w h0 h1 => rdcd_any x w h0 h1)
      have hss := str_yes (rfl : str (dmp bs) = str (dmp bs))
      generalize str (dmp bs) = sd at *
      clear r0 r1 hL h300 h40
      go_enter Tryz.func6, Tryz.ntmps6
      go_wp2_with fail
      refine (HK.out _ HL.out).mono ?_
      rintro e W1 ⟨rfl, b1⟩
      have HB1 := hide b1
      clear b1 HK
      go_wp2_with fail
      refine (HD.out _ (HR0.out.below HB1.out) (HL.out.then HB1.out)).mono ?_
      rintro e W2 ⟨rfl, b2⟩
      have HB2 := hide (HB1.out.trans (b2.mono HB1.out.size))
      clear b2 HB1 HD
      go_wp2_with fail
      refine (HRD.out _ (HR0.out.below HB2.out)).mono ?_
      rintro e W3 ⟨rfl, b3⟩
      have HB3 := hide (HB2.out.trans (b3.mono HB2.out.size))
      clear b3 HB2 HRD HR0
      have HGn : Hid (∀ x ∈ ([] : List Int), Good x) := hide (fun x hx => by cases hx)
      go_wp2
      go_loopg [5, 6, 7] len1 (fun g v5 v6 iv wr => ∃ (i : Nat) (ws : List Int) (c5 c6 : Value), i ≤ len1 ∧ g = len1 - i ∧ c5 = v5 ∧ c6 = v6 ∧ iv = .int .i64 i ∧ ws.length ≤ i ∧ Hid (∀ x ∈ ws, Good x) ∧
        Hid (wr.ownsRow w.heap.size 5 1 c5 (4 * ws.length) ((byt ws).map (Value.int .u8))) ∧ Hid (wr.ownsRow w.heap.size 24 1 c6 ws.length (ws.map (Value.int .u32))) ∧ Hid (Below w.heap.size w wr))
      case atStart => exact ⟨0, [], _, _, Nat.zero_le _, rfl, rfl, rfl, rfl, Nat.le_refl _, HGn.out, World.ownsRow_nil _ _ _ _, World.ownsRow_nil _ _ _ _, HB3.out⟩
      case round =>
        obtain ⟨i, ws, c5, c6, hil, rfl, rfl, rfl, rfl, hws, HG, HO5, HO6, HB⟩ := hrel
        clear HB3
        by_cases hin : i < len1
        · have hin' : (i : Int) < len1 := by omega
          obtain ⟨bb, o, ha, hcell⟩ := HR1.out.addr (by omega)
          subst ha
          have hc := hcell i hin
          have hfx := HR1.out.at i
          obtain ⟨x, hx⟩ : ∃ x, x = xs[i]?.getD 0 := ⟨_, rfl⟩
          rw [List.getD_eq_getElem?_getD, ← hx] at hc
          rw [← hx] at hfx
          have hcw := (HB.out.cell (World.block_lt_of_cell? w _ hc)).trans hc
          have HC := hide hc
          obtain ⟨hx0, hx1⟩ := hfx
          have HDx := hide (fun w => HDc.out x w hx0 hx1)
          have HGx : Hid (∀ k m, decN x = some (k, m) → k ≠ 63 → Good x) := hide (fun k m h hk => ⟨hx0, hx1, k, m, h, hk⟩)
          clear hcell hx hc HDc
          generalize decN x = dn at *
          cases dn with
          | none =>
            unfold prsV inst at HDx
            go_wp2_with fail
            refine (HDx.out _).mono ?_
            rintro e W4 ⟨rfl, b4⟩
            have HO5' := hide (ownsRow_below HO5.out b4)
            have HO6' := hide (ownsRow_below HO6.out b4)
            have HB4 := hide (HB.out.trans (b4.mono HB.out.size))
            have hz4 := HB4.out.size
            clear b4 hcw HO5 HO6 HB HDx
            go_wp2
            go_roundg (len1 - (i + 1))
            case measure => omega
            case rel => exact ⟨i + 1, ws, c5, c6, by omega, rfl, rfl, rfl, by go_num, by omega, HG.out, HO5'.out.alloc _, HO6'.out.alloc _, HB4.out.alloc hz4 _⟩
          | some y =>
            obtain ⟨k, m⟩ := y
            by_cases hk63 : k = 63
            · subst hk63
              unfold prsV inst at HDx
              go_wp2_with fail
              refine (HDx.out _).mono ?_
              rintro e W4 ⟨rfl, b4⟩
              have HO5' := hide (ownsRow_below HO5.out b4)
              have HO6' := hide (ownsRow_below HO6.out b4)
              have HB4 := hide (HB.out.trans (b4.mono HB.out.size))
              have hz4 := HB4.out.size
              clear b4 hcw HO5 HO6 HB HDx
              go_wp2
              go_roundg (len1 - (i + 1))
              case measure => omega
              case rel => exact ⟨i + 1, ws, c5, c6, by omega, rfl, rfl, rfl, by go_num, by omega, HG.out, HO5'.out.alloc _, HO6'.out.alloc _, HB4.out.alloc hz4 _⟩
            · have hk' : ((k : Int) == 63) = false := by
                have : (k : Int) ≠ 63 := by omega
                simpa using this
              have HG2 : Hid (∀ y ∈ ws ++ [x], Good y) := hide (fun y hy => by
                rcases List.mem_append.1 hy with h | h
                · exact HG.out y h
                · have : y = x := by simpa using h
                  rw [this]; exact HGx.out k m rfl hk63)
              unfold prsV inst at HDx
              clear hk63
              go_wp2_with fail
              refine (HDx.out _).mono ?_
              rintro e W4 ⟨rfl, b4⟩
              have HO5' := hide ((ownsRow_below HO5.out b4).alloc (.cells #[.int .i64 k, .int .i64 m.d, .int .i64 m.s, .int .i64 m.t, .int .i64 m.i] 23))
              have HO6' := hide ((ownsRow_below HO6.out b4).alloc (.cells #[.int .i64 k, .int .i64 m.d, .int .i64 m.s, .int .i64 m.t, .int .i64 m.i] 23))
              have HB4 := hide (HB.out.trans (b4.mono HB.out.size))
              have hz4 := HB4.out.size
              have HB5 := hide (HB4.out.alloc hz4 (.cells #[.int .i64 k, .int .i64 m.d, .int .i64 m.s, .int .i64 m.t, .int .i64 m.i] 23))
              have hc5 := (HB5.out.cell (World.block_lt_of_cell? w _ HC.out)).trans HC.out
              clear b4 hcw HO5 HO6 HB HDx HB4
              go_wp2_with fail
              refine (HPu.out c5 (4 * ws.length) (byt ws) x _ HO5'.out HB5.out.size hx0 hx1 (by omega)).mono ?_
              rintro e W6 ⟨v6, rfl, o6, b6, u6⟩
              have HB6 := hide (HB5.out.trans b6)
              have HO6 := hide (u6 c6 _ _ HO6'.out)
              rw [← byt_snoc, show 4 * ws.length + 4 = 4 * (ws ++ [x]).length by simp; omega] at o6
              have HO5 := hide o6
              have hc6 := (HB6.out.cell (World.block_lt_of_cell? w _ HC.out)).trans HC.out
              have hz6 := HB6.out.size
              clear o6 b6 u6 hc5 HB5 HO5' HO6' HPu
              go_wp2_with (at_builtin; refine wpList_append_own _ rfl _ _ 32 rfl w.heap.size 24 i0 (.int .u32 0) 1 4 Tryz.underlying32 hi hz0 hz1 hz2' rfl (by decide) _ _ _ rfl (HO6.out.alloc _) ⟨W6.heap.size, 0, none⟩ 1 1 [Value.int .u32 x] rfl rfl (by intro j u' hj; match j, hj with | 0, hj => simp at hj; subst hj; simp [Addr.add]) (by intro u' hu'; simp at hu'; subst hu'; rfl) (by unfold maxLen; omega) (by omega) (by simp; omega) ?_; intro v7 W7 r7 g7 n7; refine Hid.out ?_)
              refine Lib.hid ?_
              have b7 : Below w.heap.size w W7 := (HB6.out.alloc hz6 _).grown g7 (by simp; omega) (fun g hg => (World.ownsRow.lt HO6.out _ hg).1)
              have o7 := other_kept (HO6.out.alloc _) (HO5.out.alloc _) (by decide) g7
              rw [u32_row, show ws.length + 1 = (ws ++ [x]).length by simp] at r7
              have HR7 := hide r7
              have HB7 := hide b7
              have HO7 := hide o7
              clear r7 b7 n7 g7 o7 hc6 HO5 HO6 HB6
              go_wp2
              go_roundg (len1 - (i + 1))
              case measure => omega
              case rel => exact ⟨i + 1, ws ++ [x], v6, v7, by omega, rfl, rfl, rfl, by go_num, by simp; omega, HG2.out, HO7.out, HR7.out, HB7.out⟩
        · obtain rfl : i = len1 := by omega
          have hzw := HB.out.size
          obtain ⟨a5, cap5, rfl, rn5⟩ := Rn.own (top := 255) HO5.out byt_bd (by decide)
          have HDm := hide (HDD.out a5 (4 * ws.length) cap5 (byt ws) wr rn5 (by omega) (HL.out.then HB.out))
          have hdl := dmp_len HG.out
          have HLn := hide (fun w h => HLi.out (dmp (byt ws)) w (by omega) h)
          rw [lns_dmp HG.out] at HLn
          generalize str (dmp (byt ws)) = sm at *
          clear rn5 HDD HLi HO5 hdl HPu HDc HR1
          dsimp only at HLn
          go_wp2_with fail
          refine HDm.out.mono ?_
          rintro e W4 ⟨rfl, b4⟩
          have HO6' := hide (ownsRow_below HO6.out b4)
          have HB4 := hide (HB.out.trans (b4.mono hzw))
          clear b4 HO6 HB HDm
          go_wp2_with fail
          refine (HLn.out _ (HL.out.then HB4.out)).mono ?_
          rintro e W5 ⟨v5, rfl, r5, b5⟩
          have r6 := ownsRow_below HO6'.out b5
          have HB5 := hide (HB4.out.trans (b5.mono HB4.out.size))
          obtain ⟨hlm, a, cap, rfl, hc⟩ := own_read r5
          obtain ⟨_, a3, cap3, rfl, hc3⟩ := own_read r6
          obtain ⟨n, hn⟩ : ∃ n, n = ws.length := ⟨_, rfl⟩
          rw [← hn] at hc hc3 hlm ⊢
          have HC := hide hc
          have HC3 := hide hc3
          clear b5 HLn HO6' HB4 r5 r6 hc hc3 hn
          go_wp2
          go_loopg [12] n (fun g iv wr => ∃ i : Nat, i ≤ n ∧ g = n - i ∧ iv = .int .i64 i ∧ Hid (Below W5.heap.size W5 wr))
          case atStart => exact ⟨0, Nat.zero_le _, rfl, rfl, Below.refl _ _⟩
          case round =>
            obtain ⟨j, hj, rfl, rfl, HW⟩ := hrel
            by_cases hjn : j < n
            · have hjn' : (j : Int) < n := by omega
              obtain ⟨b, rfl, q⟩ := HC.out j hjn
              obtain ⟨b3, rfl, q3⟩ := HC3.out j hjn
              generalize ws.getD j 0 = x at *
              rw [← HW.out.cell (World.block_lt_of_cell? W5 _ q)] at q
              rw [← HW.out.cell (World.block_lt_of_cell? W5 _ q3)] at q3
              go_wp2_with fail
              go_quiet (fail)
              have HW2 := hide (HW.out.trans ((bel_drewN _ nq).mono HW.out.size))
              go_wp2
              go_roundg (n - (j + 1))
              case measure => omega
              case rel => exact ⟨j + 1, by omega, rfl, by go_num, HW2.out⟩
            · obtain rfl : j = n := by omega
              go_wp2
              go_ret
              exact ⟨rfl, HB5.out.trans (HW.out.mono HB5.out.size)⟩

end Go.Proofs.YtcghekkhbiomgaaGreatDoor
