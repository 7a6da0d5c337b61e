/- The walk of ShdrSpoilt. -/
import Derived.Test.YtmmbahblnmhhmaaShdrDoc
import Derived.Laws.BitsAllLaws
namespace Go.Proofs.Ytmmbahblnmhhmaa
open Go.RowKit
set_option linter.unusedVariables false
set_option linter.unusedSimpArgs false

theorem xor8 (a b : Nat) (ha : a ≤ 255) (hb : b ≤ 255) : bits .xor .u8 (a : Int) (b : Int) = ((a ^^^ b : Nat) : Int) ∧ a ^^^ b ≤ 255 := by
  have h := u8_xor_nat a b (by omega) (by omega)
  have h2 : a ^^^ b < 2 ^ 8 := Nat.xor_lt_two_pow (by omega) (by omega)
  exact ⟨h, by omega⟩
theorem rd_front {w : World} {a : Option Addr} {len cap : Nat} {bs : List Int} (r : Rd w a len cap bs) (m : Nat) (h : m ≤ len) : Rd w a m cap (bs.take m) := by
  have hl := r.length
  have h1 := r.le
  refine ⟨by simp; omega, by omega, r.max, r.bytes.take m, r.nil, fun x hx i hi => ?_⟩
  rw [r.cell x hx i (by omega)]
  simp [hi]

theorem prs_both {bs : List Int} {o n x : Int} {e : Ending} {W1 : World} (h : PrsR bs o n x e W1) :
    ∃ (a1 c1 a2 c2 : _) (m : Nat) (er : Int) (l : List Sh) (ns : List (List UInt8)), e = .returned (.tuple #[.slice a1 m c1, .slice a2 m c2, .int .i64 er]) ∧ Rh W1 a1 m c1 l ∧ Rs W1 a2 m c2 ns ∧
      (∀ (f : Ending) (W2 : World), PrsR bs o n x f W2 → ∃ (b1 d1 b2 d2 : _), f = .returned (.tuple #[.slice b1 m d1, .slice b2 m d2, .int .i64 er]) ∧ Rh W2 b1 m d1 l ∧ Rs W2 b2 m d2 ns) ∧ (er = 0 ∨ er = 31) ∧ m ≤ 9223372036854775807 := by
  rcases h with ⟨hp, a, c, a2, c2, he, hr, hs⟩ | ⟨hp, he⟩
  · refine ⟨a, c, a2, c2, n.toNat, 0, _, _, he, hr, hs, fun f W2 h2 => ?_, .inl rfl, ?_⟩
    · rcases h2 with ⟨_, b, d, b2, d2, hf, hr2, hs2⟩ | ⟨h3, _⟩
      · exact ⟨b, d, b2, d2, hf, hr2, hs2⟩
      · exact absurd hp h3
    · have := hr.le
      have := hr.max
      omega
  · refine ⟨none, 0, none, 0, 0, 31, [], [], he, Rh.nothing _, ⟨rfl, Nat.le_refl _, by omega, fun _ => rfl, fun x hx => by cases hx⟩, fun f W2 h2 => ?_, .inr rfl, by omega⟩
    rcases h2 with ⟨h3, _⟩ | ⟨_, hf⟩
    · exact absurd h3 hp
    · exact ⟨none, 0, none, 0, hf, Rh.nothing _, ⟨rfl, Nat.le_refl _, by omega, fun _ => rfl, fun x hx => by cases hx⟩⟩

set_option maxHeartbeats 3200000 in
set_option maxRecDepth 20000 in
theorem spoilt11_walk (a : Option Addr) (n cap : Nat) (l : List Sh) (at' y : Int) (cut : Bool) (w : World) (r : Rh w a n cap l) (hat : 0 ≤ at') (hat' : at' ≤ 65535) (hy : 0 ≤ y) (hy' : y ≤ 255) :
    Calls Try.prog 4 #[.slice a n cap, .int .u16 at', .int .u8 y, .bool cut] w fun e w' => e = .returned (.bool true) ∧ Below w.heap.size w w' := by
  have hmx := r.max
  have hle := r.le
  have HR := hide r
  have KN := hide (known_11 w)
  by_cases h : 8 < n
  · have h' : (8 : Int) < (n : Int) := by omega
    clear r
    go_enter Try.func4, Try.ntmps4
    go_wp2_with fail
    refine KN.out.mono ?_
    rintro e W1 ⟨rfl, b1⟩
    have B1 := hide b1
    clear b1
    go_wp2
    go_ret
    exact ⟨rfl, B1.out⟩
  · have h' : (n : Int) ≤ 8 := by omega
    have hn8 : n ≤ 8 := by omega
    clear r h
    go_enter Try.func4, Try.ntmps4
    go_wp2_with fail
    refine KN.out.mono ?_
    rintro e W1 ⟨rfl, b1⟩
    have B1 := hide b1
    have z1 := b1.size
    have MA := hide (made_any a n cap l W1 (HR.out.below b1) (by omega))
    unfold hdV at MA
    have hl := HR.out.length
    clear b1 KN HR
    go_wp2_with fail
    refine MA.out.mono ?_
    rintro e W2 ⟨v2, rfl, o2, b2⟩
    obtain ⟨ln, hln⟩ : ∃ ln, 80 + 64 * (n + 2) = ln := ⟨_, rfl⟩
    obtain ⟨L, hL⟩ : ∃ L, mdB l = L := ⟨_, rfl⟩
    have hbL : Bytes L := by rw [← hL]; exact mdB_bytes _
    have hLl : L.length = ln := by rw [← hL, mdB_len, hl]; exact hln
    rw [hln, hL] at o2
    have ln0 : 65 ≤ ln := by omega
    have ln1 : ln ≤ 2000 := by omega
    obtain ⟨g, k2, hv2, hg2, hglt⟩ := o2.form (by omega)
    subst hv2
    have O2 := hide o2
    have B2 := hide (B1.out.trans (b2.mono z1))
    have z2 := B2.out.size
    have zg : w.heap.size ≤ g := by omega
    obtain ⟨N, hN⟩ : ∃ N, n + 2 = N := ⟨_, rfl⟩
    obtain ⟨M, hM⟩ : ∃ M, n + 1 = M := ⟨_, rfl⟩
    rw [hN, hM]
    have hNb : N ≤ 10 := by omega
    have hNa : 1 ≤ N := by omega
    have hMb : M ≤ 10 := by omega
    clear o2 b2 MA hL hln B1 z1 hN hM
    have b3 := (Below.refl W2.heap.size W2).alloc (Nat.le_refl _) (.cells #[.int .u64 80, .int .i64 (N : Int), .int .i64 (M : Int)] 27)
    have X3 := hide (HdB.new W2 80 (N : Int) (M : Int))
    have O3 := hide (O2.out.alloc (.cells #[.int .u64 80, .int .i64 (N : Int), .int .i64 (M : Int)] 27))
    have B3 := hide (B2.out.trans (b3.mono z2))
    go_upto_region 6 with fail
    obtain ⟨Y, hY⟩ : ∃ Y, W2.heap.size = Y := ⟨_, rfl⟩
    obtain ⟨V3, hV3⟩ : ∃ V3, W2.alloc (.cells #[.int .u64 80, .int .i64 (N : Int), .int .i64 (M : Int)] 27) = V3 := ⟨_, rfl⟩
    rw [hV3] at X3 O3 B3 ⊢
    rw [hY] at X3 hglt z2 ⊢
    have hYV := (Array.getElem?_eq_some_iff.1 X3.out).1
    clear hV3 hY b3 O2 B2
    obtain ⟨m, hm⟩ : ∃ m : Nat, (ln : Int) - 64 = (m : Int) := ⟨ln - 64, by omega⟩
    have hm1 : 1 ≤ m := by omega
    obtain ⟨q0, hq0⟩ : ∃ q0 : Nat, at' % (m : Int) = (q0 : Int) := ⟨(at' % (m : Int)).toNat, by have := Int.emod_nonneg at' (b := (m : Int)) (by omega); omega⟩
    have hq1 : q0 < m := by have := Int.emod_lt_of_pos at' (b := (m : Int)) (by omega); omega
    have hq2 : at'.tmod (m : Int) = (q0 : Int) := by rw [Int.tmod_eq_emod_of_nonneg hat, hq0]
    have hm0 : ¬ (m : Int) = 0 := by omega
    obtain ⟨p, hp⟩ : ∃ p : Nat, 64 + (q0 : Int) = (p : Int) := ⟨64 + q0, by omega⟩
    have hp1 : p < ln := by omega
    have hcell := O3.out.cellAt p (by omega)
    have hfz := O3.out.frozenAt p
    have hu : L[p]? = some (L.getD p 0) := by
      rw [List.getElem?_eq_getElem (by omega)]
      simp [show p < L.length by omega]
    obtain ⟨u, hu2⟩ : ∃ u, u = L.getD p 0 := ⟨_, rfl⟩
    have hub : 0 ≤ u ∧ u ≤ 255 := by rw [hu2]; have := hbL.at p; simpa using this
    rw [List.getElem?_map, hu, ← hu2] at hcell
    replace hcell : V3.cell? ⟨g, p, none⟩ = some (.int .u8 u) := hcell
    obtain ⟨q, hq⟩ : ∃ q, bits .xor .u8 u y = q := ⟨_, rfl⟩
    have hqb : 0 ≤ q ∧ q ≤ 255 := by
      obtain ⟨u', hu'⟩ := Int.eq_ofNat_of_zero_le hub.1
      obtain ⟨y', hy''⟩ := Int.eq_ofNat_of_zero_le hy
      have := xor8 u' y' (by omega) (by omega)
      rw [← hq, hu', hy'', this.1]
      omega
    have hst := O3.out.stored p (.int .u8 q)
    rw [map_set_int] at hst
    have hbS : Bytes (L.set p q) := fun z hz => by
      rcases List.mem_or_eq_of_mem_set hz with h | h
      · exact hbL z h
      · rw [h]; exact hqb
    obtain ⟨a6, k6, hv6, r6⟩ := Rd.own hst.1 hbS
    cases hv6
    have B4 : Hid (Below w.heap.size w (V3.setCell ⟨g, p, none⟩ (.int .u8 q))) := hide (B3.out.setCell (show w.heap.size ≤ g by omega) _)
    have X4 : Hid (HdB (V3.setCell ⟨g, p, none⟩ (.int .u8 q)) Y 80 (N : Int) (M : Int)) := hide ((Below.heap_setCell _ _ _ _ (show Y ≠ g by omega)).trans X3.out)
    have R6 := hide r6
    have hu0 := hub.1
    have hu1 := hub.2
    have hk2 := r6.le
    have hk3 := r6.max
    have hpi : (p : Int) < (ln : Int) := by omega
    clear hst r6 O3 B3 X3 hbS hbL hu hu2 hub hqb hq0 hq1
    cases cut
    · go_upto_region 10 with fail
      generalize hV4 : V3.setCell ⟨g, p, none⟩ (.int .u8 q) = V4 at *
      have hY4 := (Array.getElem?_eq_some_iff.1 X4.out).1
      have z4 := B4.out.size
      clear hV4 hcell hfz
      have P1 := hide (parse11_any _ ln k2 (L.set p q) 80 (N : Int) (M : Int) V4 (R6.out) (by omega) (by omega) (by omega) (by omega) (by omega) (by omega) (by omega))
      unfold hdV at P1
      have P2 := hide (fun W (hW : Below V4.heap.size V4 W) => rshdrs_any _ ln k2 (L.set p q) 80 (M : Int) N W ((R6.out).below hW) (by omega) (by omega) (by omega) (by omega) (by omega) (by omega) (by omega))
      unfold hdV at P2
      obtain ⟨x0, x1, x2, _, _, _⟩ := X4.out.at
      go_wp2_with fail
      refine P1.out.mono ?_
      rintro e W5 ⟨hp, b5⟩
      obtain ⟨a1, c1, a2, c2, m, er, l1, ns, rfl, rh1, rs1, hboth, her, hm⟩ := prs_both hp
      have RH1 := hide rh1
      have RS1 := hide rs1
      have HBo := hide hboth
      have B5 := hide (B4.out.trans (b5.mono z4))
      have z5 := B5.out.size
      have P3 := hide (P2.out W5 b5)
      have X5 := hide (X4.out.below hY4 b5)
      clear hp rh1 rs1 hboth b5 P1 P2 x0 x1 x2 her
      obtain ⟨x0, x1, x2, _, _, _⟩ := X5.out.at
      go_wp2_with fail
      refine P3.out.mono ?_
      rintro e W6 ⟨hp, b6⟩
      obtain ⟨d1, e1, d2, e2, rfl, rh2, rs2⟩ := HBo.out e W6 hp
      have SM := hide (same_eq a1 m c1 l1 d1 e1 W6 (RH1.out.below b6) rh2)
      have RS1' := hide (RS1.out.below b6)
      have RS2 := hide rs2
      have B6 := hide (B5.out.trans (b6.mono z5))
      have z6 := B6.out.size
      clear hp rh2 rs2 b6 P3 RH1 RS1 HBo B5 z5 x0 x1 x2
      go_wp2_with fail
      refine SM.out.mono ?_
      rintro e W7 ⟨rfl, b7⟩
      have ST := hide (strs_eq a2 m c2 ns d2 e2 W7 (RS1'.out.below b7) (RS2.out.below b7))
      have B7 := hide (B6.out.trans (b7.mono z6))
      have z7 := B7.out.size
      clear b7 SM RS1' RS2 B6
      go_wp2_with fail
      refine ST.out.mono ?_
      rintro e W8 ⟨rfl, b8⟩
      have B8 := hide (B7.out.trans (b8.mono z7))
      clear b8 ST B7
      go_wp2
      go_ret
      exact ⟨rfl, B8.out⟩
    · go_upto_region 10 with fail
      generalize hV4 : V3.setCell ⟨g, p, none⟩ (.int .u8 q) = V4 at *
      have hY4 := (Array.getElem?_eq_some_iff.1 X4.out).1
      have z4 := B4.out.size
      clear hV4 hcell hfz
      have P1 := hide (parse11_any _ p k2 ((L.set p q).take p) 80 (N : Int) (M : Int) V4 (rd_front R6.out p (by omega)) (by omega) (by omega) (by omega) (by omega) (by omega) (by omega) (by omega))
      unfold hdV at P1
      have P2 := hide (fun W (hW : Below V4.heap.size V4 W) => rshdrs_any _ p k2 ((L.set p q).take p) 80 (M : Int) N W ((rd_front R6.out p (by omega)).below hW) (by omega) (by omega) (by omega) (by omega) (by omega) (by omega) (by omega))
      unfold hdV at P2
      obtain ⟨x0, x1, x2, _, _, _⟩ := X4.out.at
      go_wp2_with fail
      refine P1.out.mono ?_
      rintro e W5 ⟨hp, b5⟩
      obtain ⟨a1, c1, a2, c2, m, er, l1, ns, rfl, rh1, rs1, hboth, her, hm⟩ := prs_both hp
      have RH1 := hide rh1
      have RS1 := hide rs1
      have HBo := hide hboth
      have B5 := hide (B4.out.trans (b5.mono z4))
      have z5 := B5.out.size
      have P3 := hide (P2.out W5 b5)
      have X5 := hide (X4.out.below hY4 b5)
      clear hp rh1 rs1 hboth b5 P1 P2 x0 x1 x2 her
      obtain ⟨x0, x1, x2, _, _, _⟩ := X5.out.at
      go_wp2_with fail
      refine P3.out.mono ?_
      rintro e W6 ⟨hp, b6⟩
      obtain ⟨d1, e1, d2, e2, rfl, rh2, rs2⟩ := HBo.out e W6 hp
      have SM := hide (same_eq a1 m c1 l1 d1 e1 W6 (RH1.out.below b6) rh2)
      have RS1' := hide (RS1.out.below b6)
      have RS2 := hide rs2
      have B6 := hide (B5.out.trans (b6.mono z5))
      have z6 := B6.out.size
      clear hp rh2 rs2 b6 P3 RH1 RS1 HBo B5 z5 x0 x1 x2
      go_wp2_with fail
      refine SM.out.mono ?_
      rintro e W7 ⟨rfl, b7⟩
      have ST := hide (strs_eq a2 m c2 ns d2 e2 W7 (RS1'.out.below b7) (RS2.out.below b7))
      have B7 := hide (B6.out.trans (b7.mono z6))
      have z7 := B7.out.size
      clear b7 SM RS1' RS2 B6
      go_wp2_with fail
      refine ST.out.mono ?_
      rintro e W8 ⟨rfl, b8⟩
      have B8 := hide (B7.out.trans (b8.mono z7))
      clear b8 ST B7
      go_wp2
      go_ret
      exact ⟨rfl, B8.out⟩

end Go.Proofs.Ytmmbahblnmhhmaa
