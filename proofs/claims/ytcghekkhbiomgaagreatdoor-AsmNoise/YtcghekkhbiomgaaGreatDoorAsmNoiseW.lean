/- The walk of AsmNoise: blanks about a line, empty lines and comments say nothing, and a line number is told of what is wrong. -/
import Derived.Test.YtcghekkhbiomgaaGreatDoorAsmNois
namespace Go.Proofs.YtcghekkhbiomgaaGreatDoor
open Go.RowKit
set_option linter.unusedVariables false
set_option maxRecDepth 100000
set_option linter.unusedSimpArgs false

/-- A row of the call's own, read. -/
theorem own_read {k : IntKind} {w : World} {base : Nat} {e : TypeId} {v : Value} {n : Nat} {xs : List Int} (h : w.ownsRow base e 1 v n (xs.map (Value.int k))) :
    n ≤ 9223372036854775807 ∧ ∃ a cap, v = .slice a n cap ∧ ∀ i, i < n → ∃ b, a = some ⟨b, 0, none⟩ ∧ w.cell? ⟨b, i, none⟩ = some (.int k (xs.getD i 0)) := by
  have hl : xs.length = n := by simpa using h.1
  rcases h.2 with ⟨rfl, h2⟩ | ⟨g, cap, cur, rfl, hbg, hg, hnc, hcm, hcs, htake⟩
  · exact ⟨by omega, none, 0, by rw [h2], fun i hi => by omega⟩
  · refine ⟨by unfold maxLen at hcm; omega, _, cap, rfl, fun i hi => ⟨g, rfl, ?_⟩⟩
    have := h.cells (g := g) rfl i (.int k (xs.getD i 0)) (by simp [show i < xs.length by omega])
    have e : (⟨g, 0, none⟩ : Addr).add i = ⟨g, i, none⟩ := by unfold Addr.add; split <;> simp_all
    rw [← e]
    exact this

theorem pre5_len (p : Nat) : (pre5 p).length ≤ 5 := by unfold pre5; split <;> simp
theorem pre5n_le (p : Nat) : pre5n p ≤ 2 := by unfold pre5n; split <;> simp
theorem suf3_len (q : Nat) : (suf3 q).length ≤ 3 := by unfold suf3; split <;> simp
theorem tab5 (W : World) (p : Nat) (hp : p < 5) : (W.alloc (.cells #[.string ⟨#[]⟩, .string ⟨#[10]⟩, .string ⟨#[35, 32, 110, 111, 10]⟩, .string ⟨#[32, 32]⟩, .string ⟨#[10, 10, 32]⟩] 9)).cell? ⟨W.heap.size, p, none⟩ = some (.string (str (pre5 p))) := by
  match p, hp with
  | 0, _ => simp [pre5, str]
  | 1, _ => simp [pre5, str]
  | 2, _ => simp [pre5, str]
  | 3, _ => simp [pre5, str]
  | 4, _ => simp [pre5, str]
theorem tab5n (W : World) (p : Nat) (hp : p < 5) : (W.alloc (.cells #[.int .i64 0, .int .i64 1, .int .i64 1, .int .i64 0, .int .i64 2] 3)).cell? ⟨W.heap.size, p, none⟩ = some (.int .i64 (pre5n p)) := by
  match p, hp with
  | 0, _ => simp [pre5n]
  | 1, _ => simp [pre5n]
  | 2, _ => simp [pre5n]
  | 3, _ => simp [pre5n]
  | 4, _ => simp [pre5n]
theorem tab3 (W : World) (q : Nat) (hq : q < 3) : (W.alloc (.cells #[.string ⟨#[]⟩, .string ⟨#[32]⟩, .string ⟨#[32, 32, 32]⟩] 9)).cell? ⟨W.heap.size, q, none⟩ = some (.string (str (suf3 q))) := by
  match q, hq with
  | 0, _ => simp [suf3, str]
  | 1, _ => simp [suf3, str]
  | 2, _ => simp [suf3, str]

set_option maxHeartbeats 25600000 in
theorem noise_walk (a0 : Option Addr) (len0 cap0 : Nat) (xs : List Int) (a1 : Option Addr) (len1 cap1 : Nat) (ns : List Int) (wg : Int) (w : World) (hL : LaidA w) (r0 : Rn .u32 4294967295 w a0 len0 cap0 xs) (r1 : Rn .u8 255 w a1 len1 cap1 ns) (hg0 : 0 ≤ wg) (hg1 : wg ≤ 255) :
    Calls Tryz.prog 7 #[.slice a0 len0 cap0, .slice a1 len1 cap1, .int .u8 wg] w fun e w' => e = .returned (.bool true) ∧ Below w.heap.size w w' := by
  have HK := hide (fun w h => known_any5 w h)
  have HL := hide hL
  have hle0 := r0.le
  have hmx0 := r0.max
  have hle1 := r1.le
  have hmx1 := r1.max
  by_cases h10 : 10 < len0
  · have h10' : (10 : Int) < len0 := by omega
    clear r0 r1 hL
    go_enter Tryz.func7, Tryz.ntmps7
    go_wp2_with fail
    refine (HK.out _ HL.out).mono ?_
    rintro e W1 ⟨rfl, b1⟩
    have HB1 := hide b1
    clear b1
    go_wp2
    go_ret
    exact ⟨rfl, HB1.out⟩
  · have h10' : ¬ (10 : Int) < len0 := by omega
    by_cases hll : len1 < len0
    · have hll' : (len1 : Int) < len0 := by omega
      clear r0 r1 hL
      go_enter Tryz.func7, Tryz.ntmps7
      go_wp2_with fail
      refine (HK.out _ HL.out).mono ?_
      rintro e W1 ⟨rfl, b1⟩
      have HB1 := hide b1
      clear b1
      go_wp2
      go_ret
      exact ⟨rfl, HB1.out⟩
    · have hll' : ¬ (len1 : Int) < len0 := by omega
      obtain ⟨i0, hi, hz0, hz1, hz2'⟩ := info_parts infoU32
      have HR0 := hide r0
      have HR1 := hide r1
      have HLi := hide (fun l w hl h => lines_any l w hl h)
      have HDc := hide (fun x w h0 h1 => rdcd_any x w h0 h1)
      have HTx := hide (fun (k : Nat) m (hm : Ns.Fit m) w h => text_any k m w hm h)
      obtain ⟨wi, hwi⟩ : ∃ wi : Int, wi = wg % (2 * len0) := ⟨_, rfl⟩
      have HWi := hide hwi
      clear r0 r1 hL h10 hwi
      go_enter Tryz.func7, Tryz.ntmps7
      go_wp2_with fail
      refine (HK.out _ HL.out).mono ?_
      rintro e W1 ⟨rfl, b1⟩
      have HB1 := hide b1
      clear b1 HK
      go_wp2
      go_loopg [7, 8, 9, 10, 11] len0 (fun g sv v8 nv bv iv wr => ∃ (i n bad : Nat) (L : List UInt8) (ws : List Int) (c8 : Value), i ≤ len0 ∧ g = len0 - i ∧ sv = .string (str L) ∧ c8 = v8 ∧ nv = .int .i64 n ∧ bv = .int .i64 bad ∧ iv = .int .i64 i ∧ ws.length ≤ i ∧ n ≤ 3 * i ∧ L.length ≤ 1000 * i ∧ (0 < bad → wi < i) ∧ Hid (Said L n bad ws) ∧
        Hid (wr.ownsRow w.heap.size 24 1 c8 ws.length (ws.map (Value.int .u32))) ∧ Hid (Below w.heap.size w wr))
      case atStart => exact ⟨0, 0, 0, [], [], _, Nat.zero_le _, rfl, rfl, rfl, rfl, rfl, rfl, Nat.le_refl _, Nat.le_refl _, Nat.le_refl _, fun h => absurd h (by omega), Said.nil, World.ownsRow_nil _ _ _ _, HB1.out⟩
      case round =>
        obtain ⟨i, n, bad, L, ws, c8, hil, rfl, rfl, rfl, rfl, rfl, rfl, hws, hn3, hLl, hbw, HS, HO, HB⟩ := hrel
        clear HB1
        by_cases hin : i < len0
        · have hin' : (i : Int) < len0 := by omega
          have hin1 : (i : Int) < len1 := by omega
          obtain ⟨bb, o, ha, hcell⟩ := HR0.out.addr (by omega)
          subst ha
          obtain ⟨b1, o1, ha1, hcell1⟩ := HR1.out.addr (by omega)
          subst ha1
          have hc := hcell i hin
          have hc1 := hcell1 i (by omega)
          have hfx := HR0.out.at i
          have hfv := HR1.out.at i
          obtain ⟨x, hx⟩ : ∃ x, x = xs[i]?.getD 0 := ⟨_, rfl⟩
          obtain ⟨v, hv⟩ : ∃ v, v = ns[i]?.getD 0 := ⟨_, rfl⟩
          rw [List.getD_eq_getElem?_getD, ← hx] at hc
          rw [List.getD_eq_getElem?_getD, ← hv] at hc1
          rw [← hx] at hfx
          rw [← hv] at hfv
          have hcw := (HB.out.cell (World.block_lt_of_cell? w _ hc)).trans hc
          have HC := hide hc
          have HC1 := hide hc1
          obtain ⟨hx0, hx1⟩ := hfx
          obtain ⟨hv0, hv1⟩ := hfv
          have HDx := hide (fun w => HDc.out x w hx0 hx1)
          have HGx : Hid (∀ k m, decN x = some (k, m) → 1 ≤ k ∧ k < 66 ∧ m.Fit ∧ prsA (tx k m) = some (k, m) ∧ (k ≠ 63 → encW k m.d m.s m.t m.i = x)) := hide (fun k m h => by
            obtain ⟨h1, h2, _, _, h5⟩ := decN_some hx0 hx1 h
            exact ⟨h1, h2, decN_fit hx0 hx1 h, decN_prs hx0 hx1 h, h5⟩)
          clear hcell hcell1 hx hv hc hc1 HDc
          generalize decN x = dn at *
          cases dn with
          | none =>
            unfold prsV inst at HDx
            go_wp2_with fail
            refine (HDx.out _).mono ?_
            rintro e W4 ⟨rfl, b4⟩
            have HO' := hide (ownsRow_below HO.out b4)
            have HB4 := hide (HB.out.trans (b4.mono HB.out.size))
            have hz4 := HB4.out.size
            clear b4 hcw HO HB HDx
            go_wp2
            go_roundg (len0 - (i + 1))
            case measure => omega
            case rel => exact ⟨i + 1, n, bad, L, ws, c8, by omega, rfl, rfl, rfl, rfl, rfl, by go_num, by omega, by omega, by omega, fun h => by have := hbw h; omega, HS.out, HO'.out.alloc _, HB4.out.alloc hz4 _⟩
          | some y =>
            obtain ⟨k, m⟩ := y
            by_cases hk63 : k = 63
            · subst hk63
              unfold prsV inst at HDx
              go_wp2_with fail
              refine (HDx.out _).mono ?_
              rintro e W4 ⟨rfl, b4⟩
              have HO' := hide (ownsRow_below HO.out b4)
              have HB4 := hide (HB.out.trans (b4.mono HB.out.size))
              have hz4 := HB4.out.size
              clear b4 hcw HO HB HDx
              go_wp2
              go_roundg (len0 - (i + 1))
              case measure => omega
              case rel => exact ⟨i + 1, n, bad, L, ws, c8, by omega, rfl, rfl, rfl, rfl, rfl, by go_num, by omega, by omega, by omega, fun h => by have := hbw h; omega, HS.out, HO'.out.alloc _, HB4.out.alloc hz4 _⟩
            · have hk' : ((k : Int) == 63) = false := by
                have : (k : Int) ≠ 63 := by omega
                simpa using this
              obtain ⟨k1, k2, hfit, hprs, henc⟩ := HGx.out k m rfl
              have henc := henc hk63
              have HTk := hide (fun w h => HTx.out k m hfit w h)
              have hpl := tx_plain k1 k2 m
              have hlen := tx_len k m hfit
              unfold prsV inst at HDx
              unfold inst at HTk
              have HPl := hide hpl
              have HPr := hide hprs
              have HEn := hide henc
              clear hk63 hpl hprs henc HGx HTx
              generalize tx k m = t at *
              go_wp2_with fail
              refine (HDx.out _).mono ?_
              rintro e W4 ⟨rfl, b4⟩
              have HO' := hide ((ownsRow_below HO.out b4).alloc (.cells #[.int .i64 k, .int .i64 m.d, .int .i64 m.s, .int .i64 m.t, .int .i64 m.i] 23))
              have HB4 := hide (HB.out.trans (b4.mono HB.out.size))
              have hz4 := HB4.out.size
              have HB5 := hide (HB4.out.alloc hz4 (.cells #[.int .i64 k, .int .i64 m.d, .int .i64 m.s, .int .i64 m.t, .int .i64 m.i] 23))
              have hz5 := HB5.out.size
              clear b4 hcw HO HB HDx HB4
              go_wp2_with (go_at_call 9; refine (HTk.out _ (HL.out.then HB5.out)).mono ?_; rintro e W6 ⟨rfl, b6⟩; refine Hid.out ?_)
              refine Lib.hid ?_
              have HO6 := hide (ownsRow_below HO'.out b6)
              have HB6 := hide (HB5.out.trans (b6.mono hz5))
              have hz6 := HB6.out.size
              have hc6 := (HB6.out.cell (World.block_lt_of_cell? w _ HC.out)).trans HC.out
              have hn6 := (HB6.out.cell (World.block_lt_of_cell? w _ HC1.out)).trans HC1.out
              clear b6 HB5 HO' hz5 HTk hk' hz4
              have nb6 : b1 < W6.heap.size := Nat.lt_of_lt_of_le (World.block_lt_of_cell? w _ HC1.out) hz6
              obtain ⟨p, hp⟩ : ∃ p : Nat, v % 5 = (p : Int) := ⟨(v % 5).toNat, by omega⟩
              obtain ⟨q, hq⟩ : ∃ q : Nat, v % 3 = (q : Int) := ⟨(v % 3).toNat, by omega⟩
              have hp5 : p < 5 := by omega
              have hq3 : q < 3 := by omega
              have hp5' : (p : Int) < 5 := by omega
              have hq3' : (q : Int) < 3 := by omega
              have hpl := pre5_len p
              have hpn := pre5n_le p
              have hql := suf3_len q
              have hsz0 : (str L).size ≤ 10000 := by rw [str_size]; omega
              have hszt : (str t).size ≤ 250 := by rw [str_size]; omega
              have hszp : (str (pre5 p)).size ≤ 5 := by rw [str_size]; omega
              have hszq : (str (suf3 q)).size ≤ 3 := by rw [str_size]; omega
              by_cases hm : wg % (2 * (len0 : Int)) = i
              · have hb0 : bad = 0 := by
                  rcases Nat.eq_zero_or_pos bad with h | h
                  · exact h
                  · have := hbw h
                    rw [HWi.out] at this
                    omega
                subst hb0
                have hmt : (wg % (2 * (len0 : Int)) == (i : Int)) = true := by simpa using hm
                have HWl : Hid (wi < ((i + 1 : Nat) : Int)) := hide (by rw [HWi.out, hm]; omega)
                have HS2 : Hid (Said (L ++ (pre5 p ++ ((t ++ [44]) ++ (suf3 q ++ [10])))) (n + (1 + pre5n p)) (n + (1 + pre5n p)) (ws ++ [x])) := hide (HS.out.fault p q (plain_comma HPl.out) (prs_comma t) (ws ++ [x]))
                have HStr : Hid ((((str L ++ str (pre5 p)) ++ (str t ++ ⟨#[44]⟩)) ++ str (suf3 q)) ++ ⟨#[10]⟩ = str (L ++ (pre5 p ++ ((t ++ [44]) ++ (suf3 q ++ [10]))))) := hide (by
                  rw [show (⟨#[10]⟩ : ByteArray) = str [10] from rfl, show (⟨#[44]⟩ : ByteArray) = str [44] from rfl]
                  simp only [str_app, List.append_assoc])
                have HLen : Hid ((L ++ (pre5 p ++ ((t ++ [44]) ++ (suf3 q ++ [10])))).length ≤ 1000 * (i + 1)) := hide (by simp; omega)
                have ht1 := tab5 W6 p hp5
                generalize str (pre5 p) = sp at *
                generalize hsq : str (suf3 q) = sq at *
                have HSq := hide hsq
                clear hsq
                generalize str L = s0 at *
                generalize str t = st at *
                clear HPl HPr HEn hm HS
                go_upto_region 17 with fail
                have HO7 := hide (HO6.out.alloc (.cells #[.string ⟨#[]⟩, .string ⟨#[10]⟩, .string ⟨#[35, 32, 110, 111, 10]⟩, .string ⟨#[32, 32]⟩, .string ⟨#[10, 10, 32]⟩] 9))
                have HB7 := hide (HB6.out.alloc hz6 (.cells #[.string ⟨#[]⟩, .string ⟨#[10]⟩, .string ⟨#[35, 32, 110, 111, 10]⟩, .string ⟨#[32, 32]⟩, .string ⟨#[10, 10, 32]⟩] 9))
                have hz7 := HB7.out.size
                have hc7 := (HB7.out.cell (World.block_lt_of_cell? w _ HC.out)).trans HC.out
                have hn7 := (HB7.out.cell (World.block_lt_of_cell? w _ HC1.out)).trans HC1.out
                have nb7 : b1 < (W6.alloc (.cells #[.string ⟨#[]⟩, .string ⟨#[10]⟩, .string ⟨#[35, 32, 110, 111, 10]⟩, .string ⟨#[32, 32]⟩, .string ⟨#[10, 10, 32]⟩] 9)).heap.size := by simp; omega
                clear HO6 HB6 hc6 hn6
                generalize W6.alloc (.cells #[.string ⟨#[]⟩, .string ⟨#[10]⟩, .string ⟨#[35, 32, 110, 111, 10]⟩, .string ⟨#[32, 32]⟩, .string ⟨#[10, 10, 32]⟩] 9) = W7 at *
                clear hz6 nb6
                have ht5 := tab5n W7 p hp5
                go_upto_region 18 with fail
                have HO8 := hide (HO7.out.alloc (.cells #[.int .i64 0, .int .i64 1, .int .i64 1, .int .i64 0, .int .i64 2] 3))
                have HB8 := hide (HB7.out.alloc hz7 (.cells #[.int .i64 0, .int .i64 1, .int .i64 1, .int .i64 0, .int .i64 2] 3))
                have hz8 := HB8.out.size
                have hc8 := (HB8.out.cell (World.block_lt_of_cell? w _ HC.out)).trans HC.out
                have hn8 := (HB8.out.cell (World.block_lt_of_cell? w _ HC1.out)).trans HC1.out
                have nb8 : b1 < (W7.alloc (.cells #[.int .i64 0, .int .i64 1, .int .i64 1, .int .i64 0, .int .i64 2] 3)).heap.size := by simp; omega
                clear HO7 HB7 hc7 hn7
                generalize W7.alloc (.cells #[.int .i64 0, .int .i64 1, .int .i64 1, .int .i64 0, .int .i64 2] 3) = W8 at *
                clear hz7 nb7
                have ht3 := tab3 W8 q hq3
                rw [HSq.out] at ht3
                go_upto_region 21 with fail
                have HO9 := hide (HO8.out.alloc (.cells #[.string ⟨#[]⟩, .string ⟨#[32]⟩, .string ⟨#[32, 32, 32]⟩] 9))
                have HB9 := hide (HB8.out.alloc hz8 (.cells #[.string ⟨#[]⟩, .string ⟨#[32]⟩, .string ⟨#[32, 32, 32]⟩] 9))
                have hz9 := HB9.out.size
                have hc9 := (HB9.out.cell (World.block_lt_of_cell? w _ HC.out)).trans HC.out
                have hn9 := (HB9.out.cell (World.block_lt_of_cell? w _ HC1.out)).trans HC1.out
                have nb9 : b1 < (W8.alloc (.cells #[.string ⟨#[]⟩, .string ⟨#[32]⟩, .string ⟨#[32, 32, 32]⟩] 9)).heap.size := by simp; omega
                clear HO8 HB8 hc8 hn8
                generalize W8.alloc (.cells #[.string ⟨#[]⟩, .string ⟨#[32]⟩, .string ⟨#[32, 32, 32]⟩] 9) = W9 at *
                clear hz8 nb8
                go_wp2_with (at_builtin; refine wpList_append_own _ rfl _ _ 32 rfl w.heap.size 24 i0 (.int .u32 0) 1 4 Tryz.underlying32 hi hz0 hz1 hz2' rfl (by decide) _ _ _ rfl (HO9.out.alloc _) ⟨W9.heap.size, 0, none⟩ 1 1 [Value.int .u32 x] rfl rfl (by intro j u' hj; match j, hj with | 0, hj => simp at hj; subst hj; simp [Addr.add]) (by intro u' hu'; simp at hu'; subst hu'; rfl) (by unfold maxLen; omega) (by omega) (by simp; omega) ?_; intro v7 WA r7 g7 n7; refine Hid.out ?_)
                refine Lib.hid ?_
                have b7 : Below w.heap.size w WA := (HB9.out.alloc hz9 _).grown g7 (by simp; omega) (fun g hg => (World.ownsRow.lt HO9.out _ hg).1)
                rw [u32_row, show ws.length + 1 = (ws ++ [x]).length by simp] at r7
                have HR7 := hide r7
                have HBA := hide b7
                clear r7 b7 n7 g7 hc9 hn9 HO9 HB9
                go_wp2
                go_roundg (len0 - (i + 1))
                case measure => omega
                case rel => exact ⟨i + 1, n + (1 + pre5n p), n + (1 + pre5n p), _, ws ++ [x], v7, by omega, rfl, by rw [HStr.out], rfl, by go_num, by go_num, by go_num, by simp; omega, by omega, HLen.out, fun _ => HWl.out, HS2.out, HR7.out, HBA.out⟩
              · have hmt : (wg % (2 * (len0 : Int)) == (i : Int)) = false := by simpa using hm
                have HS2 : Hid (Said (L ++ (pre5 p ++ (t ++ (suf3 q ++ [10])))) (n + (1 + pre5n p)) bad (ws ++ [x])) := hide (by have := HS.out.step p q HPl.out HPr.out; rwa [HEn.out] at this)
                have HStr : Hid ((((str L ++ str (pre5 p)) ++ str t) ++ str (suf3 q)) ++ ⟨#[10]⟩ = str (L ++ (pre5 p ++ (t ++ (suf3 q ++ [10]))))) := hide (by
                  rw [show (⟨#[10]⟩ : ByteArray) = str [10] from rfl]
                  simp only [str_app, List.append_assoc])
                have HLen : Hid ((L ++ (pre5 p ++ (t ++ (suf3 q ++ [10])))).length ≤ 1000 * (i + 1)) := hide (by simp; omega)
                have ht1 := tab5 W6 p hp5
                generalize str (pre5 p) = sp at *
                generalize hsq : str (suf3 q) = sq at *
                have HSq := hide hsq
                clear hsq
                generalize str L = s0 at *
                generalize str t = st at *
                clear HPl HPr HEn hm HS
                go_upto_region 17 with fail
                have HO7 := hide (HO6.out.alloc (.cells #[.string ⟨#[]⟩, .string ⟨#[10]⟩, .string ⟨#[35, 32, 110, 111, 10]⟩, .string ⟨#[32, 32]⟩, .string ⟨#[10, 10, 32]⟩] 9))
                have HB7 := hide (HB6.out.alloc hz6 (.cells #[.string ⟨#[]⟩, .string ⟨#[10]⟩, .string ⟨#[35, 32, 110, 111, 10]⟩, .string ⟨#[32, 32]⟩, .string ⟨#[10, 10, 32]⟩] 9))
                have hz7 := HB7.out.size
                have hc7 := (HB7.out.cell (World.block_lt_of_cell? w _ HC.out)).trans HC.out
                have hn7 := (HB7.out.cell (World.block_lt_of_cell? w _ HC1.out)).trans HC1.out
                have nb7 : b1 < (W6.alloc (.cells #[.string ⟨#[]⟩, .string ⟨#[10]⟩, .string ⟨#[35, 32, 110, 111, 10]⟩, .string ⟨#[32, 32]⟩, .string ⟨#[10, 10, 32]⟩] 9)).heap.size := by simp; omega
                clear HO6 HB6 hc6 hn6
                generalize W6.alloc (.cells #[.string ⟨#[]⟩, .string ⟨#[10]⟩, .string ⟨#[35, 32, 110, 111, 10]⟩, .string ⟨#[32, 32]⟩, .string ⟨#[10, 10, 32]⟩] 9) = W7 at *
                clear hz6 nb6
                have ht5 := tab5n W7 p hp5
                go_upto_region 18 with fail
                have HO8 := hide (HO7.out.alloc (.cells #[.int .i64 0, .int .i64 1, .int .i64 1, .int .i64 0, .int .i64 2] 3))
                have HB8 := hide (HB7.out.alloc hz7 (.cells #[.int .i64 0, .int .i64 1, .int .i64 1, .int .i64 0, .int .i64 2] 3))
                have hz8 := HB8.out.size
                have hc8 := (HB8.out.cell (World.block_lt_of_cell? w _ HC.out)).trans HC.out
                have hn8 := (HB8.out.cell (World.block_lt_of_cell? w _ HC1.out)).trans HC1.out
                have nb8 : b1 < (W7.alloc (.cells #[.int .i64 0, .int .i64 1, .int .i64 1, .int .i64 0, .int .i64 2] 3)).heap.size := by simp; omega
                clear HO7 HB7 hc7 hn7
                generalize W7.alloc (.cells #[.int .i64 0, .int .i64 1, .int .i64 1, .int .i64 0, .int .i64 2] 3) = W8 at *
                clear hz7 nb7
                have ht3 := tab3 W8 q hq3
                rw [HSq.out] at ht3
                go_upto_region 21 with fail
                have HO9 := hide (HO8.out.alloc (.cells #[.string ⟨#[]⟩, .string ⟨#[32]⟩, .string ⟨#[32, 32, 32]⟩] 9))
                have HB9 := hide (HB8.out.alloc hz8 (.cells #[.string ⟨#[]⟩, .string ⟨#[32]⟩, .string ⟨#[32, 32, 32]⟩] 9))
                have hz9 := HB9.out.size
                have hc9 := (HB9.out.cell (World.block_lt_of_cell? w _ HC.out)).trans HC.out
                have hn9 := (HB9.out.cell (World.block_lt_of_cell? w _ HC1.out)).trans HC1.out
                have nb9 : b1 < (W8.alloc (.cells #[.string ⟨#[]⟩, .string ⟨#[32]⟩, .string ⟨#[32, 32, 32]⟩] 9)).heap.size := by simp; omega
                clear HO8 HB8 hc8 hn8
                generalize W8.alloc (.cells #[.string ⟨#[]⟩, .string ⟨#[32]⟩, .string ⟨#[32, 32, 32]⟩] 9) = W9 at *
                clear hz8 nb8
                go_wp2_with (at_builtin; refine wpList_append_own _ rfl _ _ 32 rfl w.heap.size 24 i0 (.int .u32 0) 1 4 Tryz.underlying32 hi hz0 hz1 hz2' rfl (by decide) _ _ _ rfl (HO9.out.alloc _) ⟨W9.heap.size, 0, none⟩ 1 1 [Value.int .u32 x] rfl rfl (by intro j u' hj; match j, hj with | 0, hj => simp at hj; subst hj; simp [Addr.add]) (by intro u' hu'; simp at hu'; subst hu'; rfl) (by unfold maxLen; omega) (by omega) (by simp; omega) ?_; intro v7 WA r7 g7 n7; refine Hid.out ?_)
                refine Lib.hid ?_
                have b7 : Below w.heap.size w WA := (HB9.out.alloc hz9 _).grown g7 (by simp; omega) (fun g hg => (World.ownsRow.lt HO9.out _ hg).1)
                rw [u32_row, show ws.length + 1 = (ws ++ [x]).length by simp] at r7
                have HR7 := hide r7
                have HBA := hide b7
                clear r7 b7 n7 g7 hc9 hn9 HO9 HB9
                go_wp2
                go_roundg (len0 - (i + 1))
                case measure => omega
                case rel => exact ⟨i + 1, n + (1 + pre5n p), bad, _, ws ++ [x], v7, by omega, rfl, by rw [HStr.out], rfl, by go_num, rfl, by go_num, by simp; omega, by omega, HLen.out, fun h => by have := hbw h; omega, HS2.out, HR7.out, HBA.out⟩
        · obtain rfl : i = len0 := by omega
          have hse := HS.out.ends
          have HLn := hide (fun w h => HLi.out L w (by omega) h)
          clear HLi HDc HTx HR0 HR1 HS
          by_cases hb0 : bad = 0
          · subst hb0
            rw [hse.1 rfl] at HLn
            generalize str L = sm at *
            dsimp only at HLn
            clear hse hbw
            go_wp2_with fail
            refine (HLn.out _ (HL.out.then HB.out)).mono ?_
            rintro e W5 ⟨v5, rfl, r5, b5⟩
            have r6 := ownsRow_below HO.out b5
            have HB5 := hide (HB.out.trans (b5.mono HB.out.size))
            obtain ⟨hlm, a, cap, rfl, hc⟩ := own_read r5
            obtain ⟨_, a3, cap3, rfl, hc3⟩ := own_read r6
            obtain ⟨n', hn⟩ : ∃ n', n' = ws.length := ⟨_, rfl⟩
            rw [← hn] at hc hc3 hlm ⊢
            have HC := hide hc
            have HC3 := hide hc3
            clear b5 HLn HO HB r5 r6 hc hc3 hn
            go_wp2
            go_loopg [17] n' (fun g iv wr => ∃ i : Nat, i ≤ n' ∧ g = n' - i ∧ iv = .int .i64 i ∧ Hid (Below W5.heap.size W5 wr))
            case atStart => exact ⟨0, Nat.zero_le _, rfl, rfl, Below.refl _ _⟩
            case round =>
              obtain ⟨j, hj, rfl, rfl, HW⟩ := hrel
              by_cases hjn : j < n'
              · have hjn' : (j : Int) < n' := by omega
                obtain ⟨b, rfl, q⟩ := HC.out j hjn
                obtain ⟨b3, rfl, q3⟩ := HC3.out j hjn
                generalize ws.getD j 0 = x at *
                rw [← HW.out.cell (World.block_lt_of_cell? W5 _ q)] at q
                rw [← HW.out.cell (World.block_lt_of_cell? W5 _ q3)] at q3
                go_wp2_with fail
                go_quiet (fail)
                have HW2 := hide (HW.out.trans ((bel_drewN _ nq).mono HW.out.size))
                go_wp2
                go_roundg (n' - (j + 1))
                case measure => omega
                case rel => exact ⟨j + 1, by omega, rfl, by go_num, HW2.out⟩
              · obtain rfl : j = n' := by omega
                go_wp2
                go_ret
                exact ⟨rfl, HB5.out.trans (HW.out.mono HB5.out.size)⟩
          · have hb1 : 0 < bad := by omega
            have hb1' : (0 : Int) < bad := by omega
            rw [hse.2 hb1] at HLn
            generalize str L = sm at *
            dsimp only at HLn
            clear hse hbw
            go_wp2_with fail
            refine (HLn.out _ (HL.out.then HB.out)).mono ?_
            rintro e W5 ⟨v5, rfl, r5, b5⟩
            have HB5 := hide (HB.out.trans (b5.mono HB.out.size))
            obtain ⟨hlm, a, cap, rfl, hc⟩ := own_read (xs := []) r5
            clear b5 HLn HO HB r5 hc
            go_wp2
            go_ret
            exact ⟨rfl, HB5.out⟩

end Go.Proofs.YtcghekkhbiomgaaGreatDoor
