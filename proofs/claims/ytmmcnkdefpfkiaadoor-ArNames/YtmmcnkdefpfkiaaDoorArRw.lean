/- The document's Write. -/
import Derived.Test.YtmmcnkdefpfkiaaDoorArNmf
namespace Go.Proofs.YtmmcnkdefpfkiaaDoor
open Go.RowKit Go.Maps
set_option linter.unusedVariables false
set_option maxRecDepth 100000
set_option maxRecDepth 20000
set_option linter.unusedSimpArgs false

/-- A row stays where the call writes elsewhere. -/
theorem row_kb {w w' : World} {B size n : Nat} {e : TypeId} {u v : Value} {xs : List Value} (h : w.ownsRow B e size u n xs) (hk : KB w w' v) (hne : ∀ q, u.ownBlock = some q → v.ownBlock ≠ some q) : w'.ownsRow B e size u n xs := by
  rcases h.2 with h0 | ⟨g, cap, cur, rfl, hb, hg, h1, h2, h3, h4⟩
  · exact ⟨h.1, .inl h0⟩
  · exact ⟨h.1, .inr ⟨g, cap, cur, rfl, hb, (hk g (Array.getElem?_eq_some_iff.1 hg).1 (hne g rfl)).trans hg, h1, h2, h3, h4⟩⟩
theorem own_ne_own {w : World} {B B2 n n2 size size2 : Nat} {e e2 : TypeId} {v u : Value} {xs ys : List Value} (h : w.ownsRow B e size v n xs) (h2 : w.ownsRow B2 e2 size2 u n2 ys) (he : e ≠ e2) : ∀ q, u.ownBlock = some q → v.ownBlock ≠ some q := fun q hq hv => by
  obtain ⟨c1, f1, q1⟩ := Lib.ownsRow_kind h q hv
  obtain ⟨c2, f2, q2⟩ := Lib.ownsRow_kind h2 q hq
  rw [q1] at q2
  cases q2
  exact he rfl

set_option maxHeartbeats 8000000 in
theorem rwrite_any (a : Option Addr) (cap : Nat) (ms : List Mb) (ai : Option Addr) (ci : Nat) (idx : T8) (w : World) (r : Rmb w a ms.length cap ms) (ri : Rt w ai ci idx) (ht : tot ms ≤ 100000000) (hti : idx.length ≤ 100000000) :
    Calls Tryd.prog 7 #[.slice a ms.length cap, .slice ai idx.length ci] w fun e w' => ∃ v', e = .returned v' ∧ Bx w w' v' (wA ms idx) := by
  obtain ⟨i8, hi8, hz80, hz81, hz82⟩ := info_parts Tryd.info8
  obtain ⟨iS, hiS, hzS0, hzS1, hzS2⟩ := info_parts Tryd.infoStr
  have hle := r.le
  have hmx := r.max
  have hile := ri.le
  have himx := ri.max
  have HR := hide r
  have HRI := hide ri
  have HT := hide ht
  have hkc := lit_kc w
  unfold mgV at hkc
  have HB0 := hide (lit_bx w)
  unfold mgV at HB0
  have hml : ms.length ≤ 100000000 := by
    have : ∀ l : List Mb, l.length ≤ tot l := fun l => by
      induction l with
      | nil => simp
      | cons a l ih => simp [tot]; omega
    have := this ms
    omega
  clear r ri
  go_enter Tryd.func7, Tryd.ntmps7
  go_upto_region 2 with fail
  generalize hW1 : w.alloc (.cells #[.int .u8 33, .int .u8 60, .int .u8 97, .int .u8 114, .int .u8 99, .int .u8 104, .int .u8 62, .int .u8 10] 5 (8, 9)) = w1 at *
  clear hkc hW1
  have hm8 : magc.length = 8 := rfl
  go_upto_if 17 with fail
  go_cut [5] (fun u wx => Hid (Bx w wx u (magc ++ idP idx)))
  case first =>
    by_cases h0 : idx = []
    · have hd0 : ¬ ((0 : Int) < (idx.length : Int)) := by rw [h0]; simp
      have hd1 : decide ((0 : Int) < (idx.length : Int)) = false := decide_eq_false hd0
      have H0 := hide h0
      clear h0
      go_wp2_with fail
      go_meet
      case rel =>
        unfold idP
        rw [if_pos H0.out, List.append_nil]
        exact HB0.out
    · have hd0 : (0 : Int) < (idx.length : Int) := by have := List.length_pos_iff.2 h0; omega
      have hd1 : decide ((0 : Int) < (idx.length : Int)) = true := decide_eq_true hd0
      have HP := hide (rmemb_any w w1 _ magc [47] idx ai ci HB0.out (Rd.below HRI.out HB0.out.bel) (fun _ k hk x hx => by
        have h1 := HB0.out.ge k hk
        have h2 := World.block_lt_of_cell? w _ ((show Rd w ai idx.length ci (nI idx) from HRI.out).cell x hx 0 (List.length_pos_iff.2 h0))
        have e : (x.add 0).block = x.block := by unfold Addr.add; split <;> rfl
        omega) (by decide) (by omega) (by decide))
      go_wp2_with fail
      refine HP.out.mono ?_
      rintro e w2 ⟨v2, rfl, r2, b2, _⟩
      have HB2 : Hid (Bx w w2 v2 (magc ++ idP idx)) := by
        have e : idP idx = wP [47] idx := by unfold idP; rw [if_neg h0]
        rw [e]
        exact ⟨b2, .inr r2⟩
      clear r2 b2 HP
      go_wp2_with fail
      go_meet
      case rel => exact HB2.out
  case rest =>
    have HB2 := hcut
    clear HB0 hcut
    have hsz2 := HB2.out.bel.size
    have hid : (magc ++ idP idx).length ≤ 200000000 := by
      unfold idP
      split
      · simp [magc]
      · have h1 := hdT_len [47] idx.length (by decide) (by omega)
        simp [magc, wP, h1, oddT]
        split <;> simp <;> omega
    have hpos : 0 < (magc ++ idP idx).length := by simp [magc]
    have HRc := hide (HR.out.below HB2.out.bel)
    have hO0 : Hid (wc.ownsRow wc.heap.size 9 1 (.slice none 0 0) 0 (csT (nmF (ms.take 0)))) := World.ownsRow_nil _ _ _ _
    have hL0 : Hid (wc.ownsRow wc.heap.size 5 1 (.slice none 0 0) (lgA (ms.take 0)).lg.length (cs8 (lgA (ms.take 0)).lg)) := World.ownsRow_nil _ _ _ _
    clear ht
    go_upto_region 6 with fail
    go_wp2_with fail
    go_loopg [6, 7, 8] ms.length (fun g vl vn i wr => ∃ k : Nat, k ≤ ms.length ∧ g = ms.length - k ∧ i = .int .i64 (k : Int) ∧ Hid (wr.ownsRow wc.heap.size 9 1 vn k (csT (nmF (ms.take k)))) ∧ Hid (wr.ownsRow wc.heap.size 5 1 vl (lgA (ms.take k)).lg.length (cs8 (lgA (ms.take k)).lg)) ∧ Hid (Below wc.heap.size wc wr))
    case atStart => exact ⟨0, by omega, rfl, rfl, hO0.out, hL0.out, Below.refl _ _⟩
    case round =>
      obtain ⟨k, hk, rfl, rfl, HN, HG, HB⟩ := hrel
      clear hO0 hL0
      by_cases hlt : k < ms.length
      · obtain ⟨b, o, rfl, hat⟩ := (HRc.out.below (HB.out)).addr (by omega)
        obtain ⟨x, hx⟩ : ∃ x, ms[k]? = some x := ⟨_, List.getElem?_eq_getElem hlt⟩
        obtain ⟨a', c', hc0, hc1, _⟩ := hat k x hx
        have htt := tot_take ms k x hx
        have htl := tot_le ms (k + 1)
        have ht3 := HT.out
        have hlg := lgA_lg (ms.take k)
        have hxl : x.n.length ≤ 100000000 := by omega
        have hll : (lgA (ms.take k)).lg.length + x.n.length + 2 ≤ 100000000 := by omega
        have hlt' : (k : Int) < (ms.length : Int) := by omega
        have hlt2 : decide ((k : Int) < (ms.length : Int)) = true := decide_eq_true hlt'
        have HX := hide hx
        have HAT := hide hat
        have hnm := str_size x.n
        have hzw := HB.out.size
        clear htt htl ht3 hlg hat hx hc1
        by_cases h15 : x.n.length ≤ 15
        · have hd15 : decide ((x.n.length : Int) ≤ 15) = true := decide_eq_true (by omega)
          obtain ⟨e1, e2⟩ := nm_short ms k x HX.out h15
          have hs := nmF_step ms k x HX.out
          rw [e2] at hs
          have HS := hide hs
          have HE := hide e1
          clear e1 e2 hs
          go_upto_region 11 with fail
          have hcs : csT (nmF (ms.take k) ++ [x.n ++ [47]]) = csT (nmF (ms.take k)) ++ [.string (str x.n ++ ⟨#[47]⟩)] := by
            rw [show (⟨#[47]⟩ : ByteArray) = str [47] from rfl, str_cat]
            simp [csT]
          have HC := hide hcs
          clear hcs
          generalize str x.n = SX at *
          have hsx : (SX ++ (⟨#[47]⟩ : ByteArray)).size ≤ 200000000 := by simp; have := hnm; have : (⟨#[47]⟩ : ByteArray).size = 1 := rfl; omega
          generalize nmF (ms.take k) = NM at *
          generalize csT NM = xs at *
          go_upto_region 8 with (at_builtin; refine wpList_append_own _ rfl _ _ 41 rfl wc.heap.size 9 iS (.string ⟨#[]⟩) 1 16 Tryd.underlying41 hiS hzS0 hzS1 hzS2 rfl (by decide) _ _ _ rfl (HN.out.alloc _) ⟨wr.heap.size, 0, none⟩ 1 1 [.string (SX ++ ⟨#[47]⟩)] rfl rfl (World.news_of_block (cs := #[.string (SX ++ ⟨#[47]⟩)]) (t := 9) (fr := (0, 0)) (heap_alloc_new wr _)) (by simp [Value.oneCell']) (by unfold maxLen; omega) (by omega) (by simp; omega) ?_; intro v9 W9 hown9 hgrow9 _; refine Hid.out ?_)
          refine hide ?_
          have O9 : Hid (W9.ownsRow wc.heap.size 9 1 v9 (k + 1) (csT (nmF (ms.take (k + 1))))) := by
            show W9.ownsRow _ _ _ _ _ _
            rw [HS.out, HC.out]
            exact hown9
          have G9 : Hid (W9.ownsRow wc.heap.size 5 1 u6 (lgA (ms.take (k + 1))).lg.length (cs8 (lgA (ms.take (k + 1))).lg)) := by
            show W9.ownsRow _ _ _ _ _ _
            rw [HE.out]
            exact rows_apart (HG.out.alloc _) (HN.out.alloc _) (by decide) hgrow9
          have B9 := hide ((HB.out.alloc hzw _).grown hgrow9 (by simp; omega) (fun j hj => (HN.out.lt j hj).1))
          clear hown9 hgrow9 HN HG HB HC HS HE
          go_wp2_with fail
          go_roundg (ms.length - (k + 1))
          case measure => omega
          case rel => exact ⟨k + 1, by omega, rfl, by go_num, O9.out, G9.out, B9.out⟩
        · have hd15 : decide ((x.n.length : Int) ≤ 15) = false := decide_eq_false (by omega)
          obtain ⟨an, cn, rfl, hnr⟩ := Rs.own HN.out
          have hnle := hnr.le
          have hnmx := hnr.max
          have HNR := hide hnr
          clear hnr
          go_wp2_with fail
          go_loopg [7, 10, 11] k (fun gg v7 v10 i wx => ∃ j : Nat, j ≤ k ∧ gg = k - j ∧ v7 = .slice an k cn ∧ v10 = .int .i64 (-1) ∧ i = .int .i64 (j : Int) ∧ wx = wr ∧ Hid (∀ q y, q < j → ms[q]? = some y → y.n ≠ x.n))
          case atStart => exact ⟨0, by omega, rfl, rfl, rfl, rfl, rfl, fun q y hq => absurd hq (by omega)⟩
          case round =>
            obtain ⟨j, hj, rfl, rfl, rfl, rfl, rfl, HQ⟩ := hrel
            by_cases hjk : j < k
            · obtain ⟨y, hy⟩ : ∃ y, ms[j]? = some y := ⟨_, List.getElem?_eq_getElem (by omega)⟩
              obtain ⟨a2, c2, hd0, hd1, _⟩ := HAT.out j y hy
              have HY := hide hy
              have hjd : decide ((j : Int) < (k : Int)) = true := decide_eq_true (by omega)
              have hjd2 : decide (j < k) = true := decide_eq_true hjk
              have hjl : (j : Int) < (ms.length : Int) := by omega
              clear hd1 hy
              by_cases hyx : y.n = x.n
              · have hqs : (y.n == x.n) = true := by simp [hyx]
                obtain ⟨e1, e2⟩ := nm_seen ms k j x y HX.out (by omega) hjk HY.out hyx
                have hs := nmF_step ms k x HX.out
                obtain ⟨bn, on, rfl, hcn⟩ := Rs.addr HNR.out (by omega)
                have hn0 := hcn j (by omega)
                rw [e1] at e2 hs
                have hgd : (nmF (ms.take k)).getD j [] = fld (lgA (ms.take k)) x.n := by rw [List.getD, e2]; rfl
                rw [hgd] at hn0
                have hcs : csT (nmF (ms.take k) ++ [fld (lgA (ms.take k)) x.n]) = csT (nmF (ms.take k)) ++ [.string (str (fld (lgA (ms.take k)) x.n))] := by simp [csT]
                have HC := hide hcs
                have HS := hide hs
                have HE := hide e1
                clear hcs hs e1 e2 hgd hcn hyx HQ HY
                generalize fld (lgA (ms.take k)) x.n = F at *
                generalize str F = SX at *
                generalize nmF (ms.take k) = NM at *
                generalize csT NM = xs at *
                clear HNR
                go_upto_region 18 with (at_builtin; refine wpList_append_own _ rfl _ _ 41 rfl wc.heap.size 9 iS (.string ⟨#[]⟩) 1 16 Tryd.underlying41 hiS hzS0 hzS1 hzS2 rfl (by decide) _ _ _ rfl (HN.out.alloc _) ⟨wr.heap.size, 0, none⟩ 1 1 [.string SX] rfl rfl (World.news_of_block (cs := #[.string SX]) (t := 9) (fr := (0, 0)) (heap_alloc_new wr _)) (by simp [Value.oneCell']) (by unfold maxLen; omega) (by omega) (by simp; omega) ?_; intro v9 W9 hown9 hgrow9 _; refine Hid.out ?_)
                refine hide ?_
                have O9 : Hid (W9.ownsRow wc.heap.size 9 1 v9 (k + 1) (csT (nmF (ms.take (k + 1))))) := by
                  show W9.ownsRow _ _ _ _ _ _
                  rw [HS.out, HC.out]
                  exact hown9
                have G9 : Hid (W9.ownsRow wc.heap.size 5 1 u6 (lgA (ms.take (k + 1))).lg.length (cs8 (lgA (ms.take (k + 1))).lg)) := by
                  show W9.ownsRow _ _ _ _ _ _
                  rw [HE.out]
                  exact rows_apart (HG.out.alloc _) (HN.out.alloc _) (by decide) hgrow9
                have B9 := hide ((HB.out.alloc hzw _).grown hgrow9 (by simp; omega) (fun j hj => (HN.out.lt j hj).1))
                clear hown9 hgrow9 HN HG HB HC HS HE
                go_wp2_with fail
                go_roundg (ms.length - (k + 1))
                case measure => omega
                case rel => exact ⟨k + 1, by omega, rfl, by go_num, O9.out, G9.out, B9.out⟩
              · have hqs : (y.n == x.n) = false := by simp [hyx]
                have HQ2 : Hid (∀ q z, q < j + 1 → ms[q]? = some z → z.n ≠ x.n) := fun q z hq hz => by
                  rcases Nat.lt_or_ge q j with h | h
                  · exact HQ.out q z h hz
                  · obtain rfl : q = j := by omega
                    rw [HY.out] at hz
                    cases hz
                    exact hyx
                clear hyx HQ HY
                go_wp2_with fail
                go_roundg (k - (j + 1))
                case measure => omega
                case rel => exact ⟨j + 1, by omega, rfl, rfl, rfl, by go_num, rfl, HQ2.out⟩
            · obtain rfl : j = k := by omega
              have hjd : decide ((j : Int) < (j : Int)) = false := decide_eq_false (by omega)
              have hjd2 : decide (j < j) = false := decide_eq_false (by omega)
              obtain ⟨e1, e2⟩ := nm_new ms j x HX.out (by omega) HQ.out
              have hs := nmF_step ms j x HX.out
              rw [e2] at hs
              have hcs : csT (nmF (ms.take j) ++ [[47] ++ Lib.decDigits (lgA (ms.take j)).lg.length]) = csT (nmF (ms.take j)) ++ [.string ((⟨#[47]⟩ : ByteArray) ++ str (Lib.decDigits (lgA (ms.take j)).lg.length))] := by
                rw [show (⟨#[47]⟩ : ByteArray) = str [47] from rfl, str_cat]
                simp [csT]
              have HC := hide hcs
              have HS := hide hs
              have HE := hide e1
              have hgl : (lgA (ms.take j)).lg.length ≤ 100000000 := by omega
              have WD := hide (fun W => rdec_any ((lgA (ms.take j)).lg.length + 1) (lgA (ms.take j)).lg.length (by omega) (by omega) W)
              have hdl := dec_len10 (lgA (ms.take j)).lg.length (by omega)
              have hds := str_size (Lib.decDigits (lgA (ms.take j)).lg.length)
              have hsc := strCells_cs8 x.n
              obtain ⟨al, cl, rfl, hlr⟩ := Rd.own HG.out (nI_bytes _)
              have hlle := hlr.le
              have hlmx := hlr.max
              clear hcs hs e1 e2 HQ HNR hlr
              generalize str (Lib.decDigits (lgA (ms.take j)).lg.length) = SD at *
              generalize nmF (ms.take j) = NM at *
              generalize csT NM = xs at *
              generalize (lgA (ms.take j)).lg = L at *
              generalize str x.n = SX at *
              go_wp2_with fail
              refine (WD.out _).mono ?_
              rintro e w5 ⟨rfl, hb5⟩
              have hz5 := hb5.size
              have HN5 := hide (rowKept (B0 := 0) HN.out hb5)
              have HG5 := hide (rowKept (B0 := 0) HG.out hb5)
              have HB5 := hide (HB.out.trans (hb5.mono hzw))
              clear hb5 HN HG HB WD
              have hz5b := HB5.out.size
              go_upto_region 20 with (at_builtin; refine wpList_append_own _ rfl _ _ 41 rfl wc.heap.size 9 iS (.string ⟨#[]⟩) 1 16 Tryd.underlying41 hiS hzS0 hzS1 hzS2 rfl (by decide) _ _ _ rfl (HN5.out.alloc _) ⟨w5.heap.size, 0, none⟩ 1 1 [.string ((⟨#[47]⟩ : ByteArray) ++ SD)] rfl rfl (World.news_of_block (cs := #[.string ((⟨#[47]⟩ : ByteArray) ++ SD)]) (t := 9) (fr := (0, 0)) (heap_alloc_new w5 _)) (by simp [Value.oneCell']) (by unfold maxLen; omega) (by omega) (by simp; omega) ?_; intro v9 W9 hown9 hgrow9 _; refine Hid.out ?_)
              refine hide ?_
              have O9 : Hid (W9.ownsRow wc.heap.size 9 1 v9 (j + 1) (csT (nmF (ms.take (j + 1))))) := by
                show W9.ownsRow _ _ _ _ _ _
                rw [HS.out, HC.out]
                exact hown9
              have G9 := hide (rows_apart (HG5.out.alloc _) (HN5.out.alloc _) (by decide) hgrow9)
              have B9 := hide ((HB5.out.alloc hz5b _).grown hgrow9 (by simp; omega) (fun j hj => (HN5.out.lt j hj).1))
              have hz9 := B9.out.size
              have hs2 : (⟨#[47, 10]⟩ : ByteArray).size = 2 := rfl
              clear hown9 hgrow9 HN5 HG5 HB5 HC HS
              go_wp2_with (at_builtin; refine Lib.wpList_append_own_string _ rfl _ _ 24 9 rfl wc.heap.size 5 i8 Tryd.underlying24 Tryd.underlying9 hi8 hz80 hz81 hz82 _ _ _ rfl G9.out SX rfl (by unfold maxLen; omega) (by omega) (by omega) ?_; intro v6 W6 r6 g6 n6; refine Hid.out ?_)
              refine hide ?_
              have O6 := hide (rows_apart O9.out G9.out (by decide) g6)
              have B6 := hide (B9.out.grown g6 hz9 (fun k hk => row_ge G9.out hk))
              have G6 := hide r6
              have hz6 := B6.out.size
              clear r6 g6 n6 O9 G9 B9
              go_wp2_with (at_builtin; refine wpList_append_own _ rfl _ _ 24 rfl wc.heap.size 5 i8 (.int .u8 0) 1 1 Tryd.underlying24 hi8 hz80 hz81 hz82 rfl (by decide) _ _ _ rfl (G6.out.alloc _) ⟨W6.heap.size, 0, none⟩ 2 2 [.int .u8 47, .int .u8 10] rfl rfl (World.news_of_block (cs := #[.int .u8 47, .int .u8 10]) (t := 5) (fr := (0, 0)) (heap_alloc_new W6 _)) (by simp [Value.oneCell']) (by unfold maxLen; omega) (by omega) (by simp; omega) ?_; intro v7 W7 r7 g7 n7; refine Hid.out ?_)
              refine hide ?_
              have O7 := hide (rows_apart (O6.out.alloc _) (G6.out.alloc _) (by decide) g7)
              have B7 := hide ((B6.out.alloc hz6 _).grown g7 (by simp; omega) (fun k hk => row_ge G6.out hk))
              have G7 : Hid (W7.ownsRow wc.heap.size 5 1 v7 (lgA (ms.take (j + 1))).lg.length (cs8 (lgA (ms.take (j + 1))).lg)) := by
                show W7.ownsRow _ _ _ _ _ _
                rw [HE.out, cs8_app, cs8_app, List.length_append, List.length_append, ← hsc, ← List.append_assoc, ← hnm, ← Nat.add_assoc]
                exact r7
              clear r7 g7 n7 O6 G6 B6 HE
              go_wp2_with fail
              go_roundg (ms.length - (j + 1))
              case measure => omega
              case rel => exact ⟨j + 1, by omega, rfl, by go_num, O7.out, G7.out, B7.out⟩
      · obtain rfl : k = ms.length := by omega
        have HN2 : Hid (wr.ownsRow wc.heap.size 9 1 u7 ms.length (csT (nmF ms))) := by
          have := HN.out
          rw [List.take_length] at this
          exact this
        have HG2 : Hid (wr.ownsRow wc.heap.size 5 1 u6 (lgA ms).lg.length (cs8 (lgA ms).lg)) := by
          have := HG.out
          rw [List.take_length] at this
          exact this
        obtain ⟨an, cn, rfl, hnr⟩ := Rs.own HN2.out
        obtain ⟨al, cl, rfl, hlr⟩ := Rd.own HG2.out (nI_bytes _)
        have HB3 := hide (HB2.out.on HB.out)
        have HLR := hide hlr
        have hlgl := lgA_lg ms
        have ht3 := HT.out
        have hlle := hlr.le
        have hlmx := hlr.max
        have hnle := hnr.le
        have hnmx := hnr.max
        have HSEP : Hid (0 < (lgA ms).lg.length → ∀ x, al = some x → ∀ q, u5.ownBlock = some q → x.block ≠ q) := fun h0 x hx q hq => by
          have h1 := HB2.out.lt hpos q hq
          have h2 := row_ge HG2.out (k := x.block) (by rw [hx]; rfl)
          omega
        have HNE : Hid (∀ q, (Value.slice an ms.length cn).ownBlock = some q → u5.ownBlock ≠ some q) := fun q hq e => by
          have h1 := HB2.out.lt hpos q e
          have h2 := row_ge HN2.out hq
          omega
        have hkk : ¬ ((ms.length : Int) < (ms.length : Int)) := by omega
        have hkk2 : decide ((ms.length : Int) < (ms.length : Int)) = false := decide_eq_false hkk
        clear hnr hlr HN HG HRc
        go_upto_if 75 with fail
        go_cut [5] (fun u wx => Hid (Bx w wx u (magc ++ idP idx ++ lgP (lgA ms))) ∧ Hid (wx.ownsRow wc.heap.size 9 1 (.slice an ms.length cn) ms.length (csT (nmF ms))) ∧ Hid (∀ q, (Value.slice an ms.length cn).ownBlock = some q → u.ownBlock ≠ some q))
        case first =>
          by_cases h0 : (lgA ms).lg = []
          · have hd0 : ¬ ((0 : Int) < ((lgA ms).lg.length : Int)) := by rw [h0]; simp
            have hd1 : decide ((0 : Int) < ((lgA ms).lg.length : Int)) = false := decide_eq_false hd0
            have H0 := hide h0
            clear h0
            go_wp2_with fail
            go_meet
            case rel =>
              refine ⟨?_, HN2.out, HNE.out⟩
              show Bx _ _ _ _
              unfold lgP
              rw [if_pos H0.out, List.append_nil]
              exact HB3.out
          · have hlp := List.length_pos_iff.2 h0
            have hd0 : (0 : Int) < ((lgA ms).lg.length : Int) := by omega
            have hd1 : decide ((0 : Int) < ((lgA ms).lg.length : Int)) = true := decide_eq_true hd0
            have HP := hide (rmemb_any w wr u5 (magc ++ idP idx) [47, 47] (lgA ms).lg al cl HB3.out HLR.out (fun _ k hk x hx => HSEP.out hlp x hx k hk) (by decide) (by omega) (by omega))
            have H0 := hide h0
            clear h0
            go_wp2_with fail
            refine HP.out.mono ?_
            rintro e w4 ⟨v4, rfl, r4, b4, kb4⟩
            have HN4 := hide (row_kb HN2.out kb4 HNE.out)
            have HE4 := hide (own_ne_own r4 HN4.out (by decide))
            have HB4 : Hid (Bx w w4 v4 (magc ++ idP idx ++ lgP (lgA ms))) := by
              have e : lgP (lgA ms) = wP [47, 47] (lgA ms).lg := by unfold lgP; rw [if_neg H0.out]
              rw [e]
              exact ⟨b4, .inr r4⟩
            clear r4 b4 kb4 HP
            go_wp2_with fail
            go_meet
            case rel => exact ⟨HB4.out, HN4.out, HE4.out⟩
        case rest =>
          obtain ⟨HB5, HN5, HE5⟩ := hcut
          have hpre0 : 0 < (magc ++ idP idx ++ lgP (lgA ms)).length := by simp [magc]
          have hpre : (magc ++ idP idx ++ lgP (lgA ms)).length ≤ 500000000 := by
            rw [List.length_append]
            have : (lgP (lgA ms)).length ≤ 200000000 := by
              unfold lgP
              split
              · simp
              · have h1 := hdT_len [47, 47] (lgA ms).lg.length (by decide) (by omega)
                simp [wP, h1, oddT]
                split <;> simp <;> omega
            omega
          have HWA : Hid (wA ms idx = magc ++ idP idx ++ lgP (lgA ms) ++ msP (lgA ms) ms) := by show _ = _; simp [wA]
          have HFL := hide (fun x hx => fld_len ms x hx ht3)
          have HNF : Hid (∀ j x, ms[j]? = some x → (nmF ms).getD j [] = fld (lgA ms) x.n) := fun j x hx => by
            unfold nmF
            rw [List.getD, List.getElem?_map, hx]
            rfl
          clear HB2 HB3 HN2 HG2 HNE HLR HSEP hid hpos hlle hlmx ht3
          generalize magc ++ idP idx ++ lgP (lgA ms) = P at *
          generalize nmF ms = NM at *
          generalize lgA ms = S at *
          go_wp2_with fail
          go_loopg [5, 12] ms.length (fun g v5 i wr => ∃ (j : Nat), j ≤ ms.length ∧ g = ms.length - j ∧ i = .int .i64 (j : Int) ∧ Hid (Bx w wr v5 (P ++ msP S (ms.take j))) ∧ Hid (∃ B0, wr.ownsRow B0 9 1 (.slice an ms.length cn) ms.length (csT NM)) ∧ Hid (∀ q, (Value.slice an ms.length cn).ownBlock = some q → v5.ownBlock ≠ some q))
          case atStart => exact ⟨0, by omega, rfl, rfl, by show Bx _ _ _ _; simpa [msP] using HB5.out, ⟨_, HN5.out⟩, HE5.out⟩
          case round =>
            obtain ⟨j, hj, rfl, rfl, HB, HN, HE⟩ := hrel
            clear HB5 HN5 HE5
            by_cases hlt : j < ms.length
            · obtain ⟨x, hx⟩ : ∃ x, ms[j]? = some x := ⟨_, List.getElem?_eq_getElem hlt⟩
              obtain ⟨b, o, a', c', rfl, h90, h91, hrd0⟩ := HR.out.at_ j x hx
              have hc1 := (HB.out.bel.cell (World.block_lt_of_cell? w _ h91)).trans h91
              obtain ⟨B0, hn⟩ := HN.out
              obtain ⟨an2, cn2, he, hnr⟩ := Rs.own hn
              cases he
              have hnle' := hnr.le
              have hnmx' := hnr.max
              obtain ⟨bn, on, rfl, hcn⟩ := Rs.addr hnr (by omega)
              have hn0 := hcn j (by omega)
              rw [HNF.out j x hx] at hn0
              have HNR := hide hn
              have hxm := List.mem_of_getElem? hx
              have hfl := HFL.out x hxm
              have htt := tot_take ms j x hx
              have htl := tot_le ms (j + 1)
              have ht4 := HT.out
              have hml := msP_len S (ms.take j) (fun y hy => HFL.out y (List.mem_of_mem_take hy)) (by omega)
              have HTK := hide (msP_take S ms j x hx)
              have hle' := hrd0.le
              have hmx' := hrd0.max
              have HRD := hide hrd0
              have hlt' : (j : Int) < (ms.length : Int) := by omega
              have hlt2 : decide ((j : Int) < (ms.length : Int)) = true := decide_eq_true hlt'
              have hPl : (P ++ msP S (ms.take j)).length ≤ 10000000000 := by rw [List.length_append]; omega
              have HP := hide (fun (u : World) (hu : Below wr.heap.size wr u) => rmemb_any w u _ (P ++ msP S (ms.take j)) (fld S x.n) x.b a' c' (HB.out.on hu) (Rd.below HRD.out (HB.out.on hu).bel) (fun h0 k hk y hy => by
                have h1 := HB.out.ge k hk
                have h2 := World.block_lt_of_cell? w _ ((show Rd w a' x.b.length c' (nI x.b) from HRD.out).cell y hy 0 h0)
                have e : (y.add 0).block = y.block := by unfold Addr.add; split <;> rfl
                omega) hfl (by omega) hPl)
              clear h90 h91 hrd0 hx hxm hcn hnr hn htt htl ht4 hml hPl HN HNF HFL
              generalize hF : fld S x.n = F at *
              generalize hSF : str F = SF at *
              clear hF hSF
              go_upto_region 26 with fail
              go_region_with (first
                  | (go_at_call 15; refine (HP.out _ ((Below.refl _ _).drew)).mono ?_; rintro e w6 ⟨v6, rfl, r6, b6, kb6⟩; have R6 := hide r6; have B6 := hide b6; have K6 := hide kb6; clear r6 b6 kb6))
              all_goals
                have HN6 := hide (row_kb (rowKept (B0 := 0) HNR.out ((Below.refl _ _).drew)) K6.out HE.out)
                have HE6 := hide (own_ne_own R6.out HN6.out (by decide))
                have HB6 : Hid (Bx w w6 v6 (P ++ msP S (ms.take (j + 1)))) := by
                  show Bx _ _ _ _
                  rw [HTK.out, ← List.append_assoc]
                  exact ⟨B6.out, .inr R6.out⟩
                clear R6 B6 K6 HP HTK HNR
                go_wp2_with fail
                go_roundg (ms.length - (j + 1))
                case measure => omega
                case rel => exact ⟨j + 1, by omega, rfl, by go_num, HB6.out, ⟨_, HN6.out⟩, HE6.out⟩
            · obtain rfl : j = ms.length := by omega
              have hkk3 : ¬ ((ms.length : Int) < (ms.length : Int)) := by omega
              go_wp2_with fail
              go_ret
              refine ⟨_, rfl, ?_⟩
              rw [HWA.out]
              have := HB.out
              rw [List.take_length] at this
              exact this

end Go.Proofs.YtmmcnkdefpfkiaaDoor
