/- The contract of the document's Syms: the symbols and their names just where the rules hold. -/
import Derived.Test.YtonhahijblnfhaaSymRef
import Derived.Test.YtonhahijblnfhaaNum9
namespace Go.Proofs.Ytonhahijblnfhaa
open Go.RowKit
set_option linter.unusedVariables false
set_option linter.unusedSimpArgs false

/-- The first names, as values. -/
def csU (N : List (List UInt8)) (k : Nat) : List Value := csT (N.take k)

structure RqS (w wr : World) (v u : Value) (L : List Sy) (N : List (List UInt8)) (k k2 : Nat) : Prop where
  row : wr.ownsRow w.heap.size 40 7 v k (syC.all (L.take k))
  txt : wr.ownsRow w.heap.size 9 1 u k2 (csU N k2)
  bel : Below w.heap.size w wr
theorem RqS.below {w wr W : World} {v u : Value} {L : List Sy} {N : List (List UInt8)} {k k2 : Nat} (h : RqS w wr v u L N k k2) (hw : Below wr.heap.size wr W) : RqS w W v u L N k k2 :=
  ⟨ownsRow_kept0 h.row hw, ownsRow_kept0 h.txt hw, h.bel.trans (hw.mono h.bel.size)⟩
theorem RqS.push {w V W9 : World} {v u v' : Value} {L : List Sy} {N : List (List UInt8)} {k k2 : Nat} {t : Sy} {o : Obj} (h : RqS w V v u L N k k2) (ht : L[k]? = some t) (hown : W9.ownsRow w.heap.size 40 7 v' (k + 1) (syC.all (L.take k) ++ t.cells)) (hgrow : (V.alloc o).grownBy W9 v.ownBlock) : RqS w W9 v' u L N (k + 1) k2 := by
  have z := h.bel.size
  refine ⟨?_, rows_apart (h.txt.alloc o) (h.row.alloc o) (by decide) hgrow, (h.bel.alloc z o).grown hgrow (by simp; omega) (fun j hj => (h.row.lt j hj).1)⟩
  rw [Rc.all_take syC L k t ht]
  exact hown
theorem RqS.pusht {w V W9 : World} {v u u' : Value} {L : List Sy} {N : List (List UInt8)} {k k2 : Nat} {y : List UInt8} {o : Obj} (h : RqS w V v u L N k k2) (hy : N[k2]? = some y) (hown : W9.ownsRow w.heap.size 9 1 u' (k2 + 1) (csU N k2 ++ [.string (str y)])) (hgrow : (V.alloc o).grownBy W9 u.ownBlock) : RqS w W9 v u' L N k (k2 + 1) := by
  have z := h.bel.size
  refine ⟨rows_apart (h.row.alloc o) (h.txt.alloc o) (by decide) hgrow, ?_, (h.bel.alloc z o).grown hgrow (by simp; omega) (fun j hj => (h.txt.lt j hj).1)⟩
  unfold csU at hown ⊢
  rw [List.take_add_one, hy]
  simpa [csT] using hown

theorem syAt_got {bs : List Int} (hb : Bytes bs) (p : Nat) : got bs (p : Int) 4 = ((syAt bs p).nm : Int) ∧ got bs ((p : Int) + 6) 2 = (syAt bs p).se ∧ got bs ((p : Int) + 8) 8 = ((syAt bs p).va : Int) ∧ got bs ((p : Int) + 16) 8 = ((syAt bs p).sz : Int) := by
  have h : ∀ (q : Nat) (n : Nat) (z : Int), ((q : Nat) : Int) = z → got bs z n = ((got bs ((q : Nat) : Int) n).toNat : Int) := fun q n z e => by
    rw [← e]
    have := got_nonneg hb (q : Int) n
    omega
  exact ⟨h p 4 _ rfl, rfl, h (p + 8) 8 _ (by omega), h (p + 16) 8 _ (by omega)⟩
theorem and15_u8 (n : Nat) (h : n < 256) : bits .and .u8 (n : Int) 15 = ((n % 16 : Nat) : Int) := by
  have := bits_mask .u8 8 (by decide) wraps_u8 4 (by decide) (n : Int) (by omega) (by omega)
  rw [show (2 : Int) ^ 4 - 1 = 15 by decide, show (2 : Int) ^ 4 = 16 by decide] at this
  rw [this]
  omega

set_option maxHeartbeats 6400000 in
set_option maxRecDepth 20000 in
theorem rsyms_any (a : Option Addr) (len cap : Nat) (bs : List Int) (a2 : Option Addr) (len2 cap2 : Nat) (nb : List Int) (loc : Nat) (w : World) (r : Rd w a len cap bs) (r2 : Rd w a2 len2 cap2 nb) (hloc : loc ≤ 4294967295) :
    Calls Try.prog 11 #[.slice a len cap, .slice a2 len2 cap2, .int .u32 (loc : Int)] w fun e w' => SyR bs nb loc e w' ∧ Below w.heap.size w w' := by
  have hl := r.length
  have hle := r.le
  have hmx := r.max
  obtain ⟨iY, hiY, hzY0, hzY1, hzY2⟩ := info_parts Try.infoSy
  obtain ⟨iS, hiS, hzS0, hzS1, hzS2⟩ := info_parts Try.infoStr
  have d1 : (len : Int).tdiv 24 = (len : Int) / 24 := Int.tdiv_eq_ediv_of_nonneg (by omega)
  have d2 : (len : Int).tmod 24 = (len : Int) % 24 := Int.tmod_eq_emod_of_nonneg (by omega)
  obtain ⟨n, hn⟩ : ∃ n, len / 24 = n := ⟨_, rfl⟩
  have hn' : (len : Int) / 24 = (n : Int) := by omega
  have hn2 : bs.length / 24 = n := by rw [hl]; exact hn
  by_cases hm : len % 24 = 0
  · have m0 : ((len : Int) % 24 != 0) = false := by simp; omega
    by_cases h1 : 1 ≤ n
    · have h1' : ¬ ((n : Int) < 1) := by omega
      by_cases hx : n ≤ 500
      · by_cases hq : 1 ≤ loc
        · by_cases hu : loc ≤ n
          · have hun : (loc : Int) ≤ (n : Int) := by omega
            have hq' : ¬ ((loc : Int) < 1) := by omega
            have hx' : ¬ ((500 : Int) < (n : Int)) := by omega
            obtain ⟨L, hL⟩ : ∃ L, symsL bs n = L := ⟨_, rfl⟩
            obtain ⟨N, hN⟩ : ∃ N, synL bs nb n = N := ⟨_, rfl⟩
            have hLl : L.length = n := by rw [← hL]; exact symsL_len _ _
            have hNl : N.length = n := by rw [← hN]; exact synL_len _ _ _
            have hLa : ∀ i, i < n → L[i]? = some (syAt bs (24 * i)) := fun i hi => by rw [← hL]; exact symsL_at _ _ _ hi
            have hNa : ∀ i, i < n → ∀ y, synO nb (syAt bs (24 * i)) i = some y → N[i]? = some y := fun i hi y hy => by rw [← hN]; exact synL_at _ _ _ _ hi y hy
            have hLok : ∀ s ∈ L, s.Ok := by rw [← hL]; exact symsL_ok r.bytes _
            have PR : Hid (symOk bs nb loc ↔ ∀ i, i < n → syB nb (syAt bs (24 * i)) i loc = true) := by
              show symOk bs nb loc ↔ _
              unfold symOk
              rw [hn2, hl]
              exact ⟨fun h => h.2.2.2.2.2, fun h => ⟨hm, by omega, hx, hq, hu, h⟩⟩
            have HBY := hide r.bytes
            have HL := hide hL
            have HN := hide hN
            have HLa := hide hLa
            have HNa := hide hNa
            have HLok := hide hLok
            have HN2 := hide hn2
            obtain ⟨b0, o0, rfl, hcell⟩ := r.addr (by omega)
            have R0 := hide r
            have Q0 := hide r2
            have hl24 : 24 * n = len := by omega
            have S0 : Hid (RqS w w (.slice none 0 0) (.slice none 0 0) L N 0 0) := ⟨World.ownsRow_nil _ _ _ _, World.ownsRow_nil _ _ _ _, Below.refl _ _⟩
            clear hL hN hLa hNa hLok hn2 r r2 hn hm hcell
            go_enter Try.func11, Try.ntmps11
            go_wp2
            clear d1 d2 m0 hn'
            go_loopg [10, 11, 12] n (fun gg v u i wr => ∃ k : Nat, k ≤ n ∧ gg = n - k ∧ i = .int .i64 (k : Int) ∧ Hid (RqS w wr v u L N k k) ∧ Hid (∀ i, i < k → syB nb (syAt bs (24 * i)) i loc = true))
            case atStart => exact ⟨0, by omega, rfl, rfl, S0, fun i hi => by omega⟩
            case round =>
              obtain ⟨k, hk, rfl, rfl, S, HP⟩ := hrel
              clear S0
              have hbW := S.out.bel
              have zr := hbW.size
              by_cases hlt : k < n
              · have hlt' : (k : Int) < (n : Int) := by omega
                obtain ⟨p, hp⟩ : ∃ p, 24 * k = p := ⟨_, rfl⟩
                obtain ⟨t, ht⟩ : ∃ t, syAt bs p = t := ⟨_, rfl⟩
                have htk : L[k]? = some t := by rw [← ht, ← hp]; exact HLa.out k hlt
                have htok := HLok.out t (List.mem_of_getElem? htk)
                have e1 : 24 * (k : Int) = (p : Int) := by omega
                have hp1 : p + 24 ≤ len := by omega
                obtain ⟨G, hG⟩ : ∃ G : Int → Int → Int, ∀ q n, got bs q n.toNat = G q n := ⟨_, fun _ _ => rfl⟩
                obtain ⟨A0, A1, A2, A3⟩ := syAt_got HBY.out p
                have E0 : G (p : Int) 4 = (t.nm : Int) := by rw [← ht, ← hG]; exact A0
                have E1 : G ((p : Int) + 6) 2 = t.se := by rw [← ht, ← hG]; exact A1
                have E2 : G ((p : Int) + 8) 8 = (t.va : Int) := by rw [← ht, ← hG]; exact A2
                have E3 : G ((p : Int) + 16) 8 = (t.sz : Int) := by rw [← ht, ← hG]; exact A3
                have NU : Hid (∀ q n : Int, 0 ≤ q → q ≤ 18446744073709551615 → n = 4 ∨ n = 8 ∨ n = 2 → ∀ W, Below wr.heap.size wr W → Calls Try.prog 20 #[.slice (some ⟨b0, o0, none⟩) len cap, .int .u64 q, .int .i64 n] W fun e w' => e = .returned (.int .u64 (G q n)) ∧ w' = W) := fun q n h0 h1 h2 W hW => by
                  obtain ⟨m, rfl⟩ := Int.eq_ofNat_of_zero_le (show 0 ≤ n by omega)
                  rw [← hG]
                  exact num9_any (some ⟨b0, o0, none⟩) len cap bs q m W ((R0.out.below hbW).below hW) h0 h1 (by omega) (by omega)
                have hc := (R0.out.below hbW)
                obtain ⟨b', o', e', hc2⟩ := hc.addr (by omega)
                cases e'
                have hx4 := hc2 (p + 4) (by omega)
                have hx5 := hc2 (p + 5) (by omega)
                obtain ⟨i4, hi4⟩ : ∃ i : Nat, bs[p + 4]?.getD 0 = (i : Int) := ⟨(bs[p + 4]?.getD 0).toNat, by have := HBY.out.at (p + 4); omega⟩
                obtain ⟨i5, hi5⟩ : ∃ i : Nat, bs[p + 5]?.getD 0 = (i : Int) := ⟨(bs[p + 5]?.getD 0).toNat, by have := HBY.out.at (p + 5); omega⟩
                have h4 : i4 ≤ 255 := by have := HBY.out.at (p + 4); omega
                have h5 : i5 ≤ 255 := by have := HBY.out.at (p + 5); omega
                have f1 : t.bd = ((i4 / 16 : Nat) : Int) := by rw [← ht]; show bs.getD (p + 4) 0 / 16 = _; rw [List.getD_eq_getElem?_getD, hi4]; omega
                have f2 : t.ty = ((i4 % 16 : Nat) : Int) := by rw [← ht]; show bs.getD (p + 4) 0 % 16 = _; rw [List.getD_eq_getElem?_getD, hi4]; omega
                have f3 : t.ot = (i5 : Int) := by rw [← ht]; show bs.getD (p + 5) 0 = _; rw [List.getD_eq_getElem?_getD, hi5]
                have w4 : bits .and .u8 (i4 : Int) 15 = t.ty := by rw [and15_u8 _ (by omega), f2]
                have w5 : (i4 : Int) / 16 = t.bd := by rw [f1]; omega
                obtain ⟨p4, hp4⟩ : ∃ x, p + 4 = x := ⟨_, rfl⟩
                obtain ⟨p5, hp5⟩ : ∃ x, p + 5 = x := ⟨_, rfl⟩
                have k4 : (p : Int) + 4 = (p4 : Int) := by omega
                have k5 : (p : Int) + 5 = (p5 : Int) := by omega
                have g4 : p4 < len := by omega
                have g5 : p5 < len := by omega
                rw [List.getD_eq_getElem?_getD, hi4, hp4] at hx4
                rw [List.getD_eq_getElem?_getD, hi5, hp5] at hx5
                have hb0 : b0 < wr.heap.size := World.block_lt_of_cell? wr _ hx4
                have nb0 : b0 ≠ wr.heap.size := by omega
                have k0 : 0 ≤ t.bd ∧ t.bd ≤ 15 := by omega
                have k1 : 0 ≤ t.ty ∧ t.ty ≤ 15 := by omega
                have k2 : 0 ≤ t.ot ∧ t.ot ≤ 255 := by omega
                have k3 : 0 ≤ t.se ∧ t.se ≤ 65535 := by rw [← ht]; have := syAt_ok HBY.out p; exact ⟨this.2.2.2.2.2.2.2.1, this.2.2.2.2.2.2.2.2⟩
                have k0a := k0.1
                have k0b := k0.2
                have k1a := k1.1
                have k1b := k1.2
                have k2a := k2.1
                have k2b := k2.2
                have k3a := k3.1
                have k3b := k3.2
                have v0 := htok.nm
                have v1 := htok.va
                have v2 := htok.sz
                have x3 : IntKind.i64.wrap t.se = t.se := by rw [IntKind.wrap_i64]; omega
                have x0 : IntKind.i64.wrap t.bd = t.bd := by rw [IntKind.wrap_i64]; omega
                have x1 : IntKind.i64.wrap t.ty = t.ty := by rw [IntKind.wrap_i64]; omega
                have x2 : IntKind.i64.wrap t.ot = t.ot := by rw [IntKind.wrap_i64]; omega
                have x4 : IntKind.u32.wrap (t.nm : Int) = (t.nm : Int) := u32_wrap_id _ (by omega) (by omega)
                have x5 : IntKind.u64.wrap (p4 : Int) = (p4 : Int) := u64_wrap_id _ (by omega) (by omega)
                have x6 : IntKind.u64.wrap (p5 : Int) = (p5 : Int) := u64_wrap_id _ (by omega) (by omega)
                have x7 : IntKind.u64.wrap ((p : Int) + 6) = (p : Int) + 6 := u64_wrap_id _ (by omega) (by omega)
                have x8 : IntKind.u64.wrap ((p : Int) + 8) = (p : Int) + 8 := u64_wrap_id _ (by omega) (by omega)
                have x9 : IntKind.u64.wrap ((p : Int) + 16) = (p : Int) + 16 := u64_wrap_id _ (by omega) (by omega)
                have F3 := hide f3
                have HRT : Hid (syB nb (syAt bs (24 * k)) k loc = syB nb t k loc) := by rw [hp, ht]; exact rfl
                have HTK := hide htk
                have HNK : Hid (∀ y, synO nb t k = some y → N[k]? = some y) := fun y hy => HNa.out k hlt y (by rw [hp, ht]; exact hy)
                have HBW := hide hbW
                have y5 : (i5 : Int) = t.ot := f3.symm
                have N0 := hide (NU.out (p : Int) 4 (by omega) (by omega) (by omega))
                have N1 := hide (NU.out ((p : Int) + 6) 2 (by omega) (by omega) (by omega))
                have N2 := hide (NU.out ((p : Int) + 8) 8 (by omega) (by omega) (by omega))
                have N3 := hide (NU.out ((p : Int) + 16) 8 (by omega) (by omega) (by omega))
                rw [E0] at N0
                rw [E1] at N1
                rw [E2] at N2
                rw [E3] at N3
                clear E0 E1 E2 E3 NU
                clear hG ht htk htok hp hbW A0 A1 A2 A3 hc hc2 hi4 hi5 f1 f2 f3 hp4 hp5 k0 k1 k2 k3
                go_upto_region 10 with fail
                have HARI := hide (And.intro hk (And.intro hlt (And.intro zr (And.intro hl24 (And.intro hx (And.intro hq (And.intro hu (And.intro hle hmx))))))))
                have HARJ := hide (And.intro hLl (And.intro hNl (And.intro hl hloc)))
                clear hk hlt zr hl24 hx hq hu hun hle hmx hLl hNl hl hloc e1 hp1 h1 hlt' h1' hq' hx'
                go_cut [14] (fun u wx => u = .pointer (some ⟨wr.heap.size, 0, none⟩) ∧ Hid (SyB wx wr.heap.size t) ∧ Hid (Below wr.heap.size wr wx))
                case first =>
                  go_region_held3 (fun w' => w'.cell? ⟨b0, o0 + p4, none⟩ = some (.int .u8 (i4 : Int)) ∧ w'.cell? ⟨b0, o0 + p5, none⟩ = some (.int .u8 (i5 : Int)))
                    (go_keep)
                    ((first
                      | (go_at_call 20; (first | with_reducible refine (N0.out _ ?_).mono ?_ | with_reducible refine (N1.out _ ?_).mono ?_ | with_reducible refine (N2.out _ ?_).mono ?_ | with_reducible refine (N3.out _ ?_).mono ?_); (first | exact (Below.refl _ _).drew | exact ((Below.refl _ _).alloc (Nat.le_refl _) _).drew); rintro e w' ⟨rfl, hw'⟩; rw [hw']; clear hw' w')))
                  all_goals
                    go_wp2
                    go_meet
                    case rel =>
                      refine ⟨rfl, ?_, ?_⟩
                      · exact SyB.new wr t
                      · exact ((Below.refl wr.heap.size wr).alloc (Nat.le_refl _) _).drew
                case rest =>
                  obtain ⟨rfl, H8, B8⟩ := hcut
                  obtain ⟨hk, hlt, zr, hl24, hx, hq, hu, hle, hmx⟩ := HARI.out
                  obtain ⟨hLl, hNl, hl, hloc⟩ := HARJ.out
                  clear HARI HARJ
                  obtain ⟨V, hV⟩ : ∃ V, wc = V := ⟨_, rfl⟩
                  rw [hV] at H8 B8 ⊢
                  have S8 := hide (S.out.below B8.out)
                  have Q8 := hide ((Q0.out.below HBW.out).below B8.out)
                  have hXV := H8.out.lt
                  obtain ⟨X, hX⟩ : ∃ X, wr.heap.size = X := ⟨_, rfl⟩
                  rw [hX] at H8 hXV ⊢
                  have zV := S8.out.bel.size
                  clear hV hX S B8 HBW N0 N1 N2 N3 hx4 hx5 w4 w5 x0 x1 x2 x3 x4 x5 x6 x7 x8 x9 F3 y5 k4 k5 g4 g5 hb0 nb0 h4 h5
                  obtain ⟨d0, d1, d2, d3, d4, d5, d6⟩ := H8.out.at
                  simp only [Nat.zero_add] at d0 d1 d2 d3 d4 d5 d6
                  by_cases hk0 : k = 0
                  · have hk0' : ((k : Int) == 0) = true := by simp; omega
                    have hz0 := syE_zero t
                    rcases hz : syZ t with _ | _
                    · have hno : ¬ symOk bs nb loc := fun h => by
                        have h1 := PR.out.1 h k hlt
                        rw [HRT.out, hk0] at h1
                        have h2 : syZ t = true := h1
                        rw [hz] at h2
                        cases h2
                      have HNO := hide hno
                      have BF := hide S8.out.bel
                      rw [hz] at hz0
                      clear hno hz S8 Q8 H8 HTK HRT HP HL HLa HLok PR R0 HBY hk0
                      go_upto_region 13 with (refine wpList_neq_sy _ rfl _ _ _ rfl t sy0 rfl rfl _ hz0 ?_)
                      go_wp2
                      go_ret3
                      exact ⟨.inr ⟨HNO.out, rfl⟩, BF.out⟩
                    · have HP2 : Hid (∀ i, i < k + 1 → syB nb (syAt bs (24 * i)) i loc = true) := fun i hi => by
                        obtain rfl : i = k := by omega
                        rw [HRT.out, hk0]
                        exact hz
                      have HYK := hide (HNK.out [] (by unfold synO; rw [if_pos hk0]))
                      rw [hz] at hz0
                      clear hz hk0 HRT HNK HP
                      go_upto_region 14 with (refine wpList_neq_sy _ rfl _ _ _ rfl t sy0 rfl rfl _ hz0 ?_)
                      go_wp2_with (at_builtin; refine wpList_append_lies _ rfl _ _ 22 rfl w.heap.size 40 iY (.agg #[.int .u32 0, .int .i64 0, .int .i64 0, .int .i64 0, .int .i64 0, .int .u64 0, .int .u64 0]) 7 56 Try.underlying22 hiY hzY0 hzY1 hzY2 rfl (by decide) u10 k (syC.all (L.take k)) rfl (S8.out.row.alloc _) ⟨V.heap.size, 0, none⟩ 1 1 [.int .u32 (t.nm : Int), .int .i64 t.bd, .int .i64 t.ty, .int .i64 t.ot, .int .i64 t.se, .int .u64 (t.va : Int), .int .u64 (t.sz : Int)] rfl rfl (World.news_of_block (cs := #[.int .u32 (t.nm : Int), .int .i64 t.bd, .int .i64 t.ty, .int .i64 t.ot, .int .i64 t.se, .int .u64 (t.va : Int), .int .u64 (t.sz : Int)]) (t := 40) (fr := (0, 0)) (heap_alloc_new V _)) (syC.one t) (by omega) (by unfold maxLen; omega) (by omega) (by simp; omega) _ rfl ?_)
                      intro g9 c9 W9 hown hgrow hat hlt9
                      have N9 := hide (S8.out.push HTK.out hown hgrow)
                      have z9 := N9.out.bel.size
                      clear hown hgrow hat hlt9 S8 H8 d0 d1 d2 d3 d4 d5 d6
                      go_wp2_with (at_builtin; refine wpList_append_lies _ rfl _ _ 29 rfl w.heap.size 9 iS (.string ⟨#[]⟩) 1 16 Try.underlying29 hiS hzS0 hzS1 hzS2 rfl (by decide) u11 k (csU N k) rfl (N9.out.txt.alloc _) ⟨W9.heap.size, 0, none⟩ 1 1 [.string ⟨#[]⟩] rfl rfl (World.news_of_block (cs := #[.string ⟨#[]⟩]) (t := 9) (fr := (0, 0)) (heap_alloc_new W9 _)) (by simp [Value.oneCell']) (by omega) (by unfold maxLen; omega) (by omega) (by simp; omega) _ rfl ?_)
                      intro gt ct Wt hownt hgrowt hatt hltt
                      have NT := hide (N9.out.pusht HYK.out hownt hgrowt)
                      clear hownt hgrowt hatt hltt N9 HYK
                      go_wp2
                      go_roundg (n - (k + 1))
                      case measure => omega
                      case rel => exact ⟨k + 1, by omega, rfl, by go_num, NT, HP2⟩
                  · have hk0' : ((k : Int) == 0) = false := by simp; omega
                    have NM := hide (name_any a2 len2 cap2 nb t.nm V Q8.out (by omega))
                    have HSB : Hid (syB nb t k loc = (match gtO nb t.nm with | none => false | some y => (decide (k < loc) == decide (t.bd = 0)) && decide (t.bd ≤ 2) && decide (t.ty ≤ 4) && (decide (t.ty < 3) || decide (k < loc)) && decide (t.ot ≤ 3) && (decide (k < loc) || !y.isEmpty))) := by
                      show syB nb t k loc = _
                      unfold syB
                      rw [if_neg hk0]
                      rcases gtO nb t.nm with _ | y <;> rfl
                    have HNK2 : Hid (∀ y, gtO nb t.nm = some y → N[k]? = some y) := fun y hy => HNK.out y (by unfold synO; rw [if_neg hk0]; exact hy)
                    have w32 : IntKind.u32.wrap (k : Int) = (k : Int) := u32_wrap_id _ (by omega) (by omega)
                    clear hk0 HNK
                    rcases ho : gtO nb t.nm with _ | y
                    · have hno : ¬ symOk bs nb loc := fun h => by
                        have h1 := PR.out.1 h k hlt
                        rw [HRT.out, HSB.out, ho] at h1
                        cases h1
                      have HNO := hide hno
                      have BF := hide S8.out.bel
                      rw [ho, gtR_none] at NM
                      clear hno ho S8 Q8 H8 HTK HRT HP HL HLa HLok PR R0 HBY HSB HNK2
                      go_upto_region 16 with (go_at_call 21; refine NM.out.mono ?_; rintro e w' ⟨rfl, hw'⟩; rw [hw']; clear hw' w')
                      clear d0 d1 d2 d3 d4 d5 d6
                      go_wp2
                      go_ret3
                      exact ⟨.inr ⟨HNO.out, rfl⟩, BF.out⟩
                    · rw [ho, gtR_some] at NM
                      have HYK := hide (HNK2.out y ho)
                      have HRT2 : Hid (syB nb (syAt bs (24 * k)) k loc = ((decide (k < loc) == decide (t.bd = 0)) && decide (t.bd ≤ 2) && decide (t.ty ≤ 4) && (decide (t.ty < 3) || decide (k < loc)) && decide (t.ot ≤ 3) && (decide (k < loc) || !y.isEmpty))) := by
                        rw [HRT.out, HSB.out, ho]
                        exact rfl
                      clear ho HNK2 HSB HRT
                      go_upto_region 16 with (go_at_call 21; refine NM.out.mono ?_; rintro e w' ⟨rfl, hw'⟩; rw [hw']; clear hw' w')
                      have u1 : decide ((k : Int) < (loc : Int)) = decide (k < loc) := by rw [decide_eq_decide]; omega
                      have u2 : (t.bd == 0) = decide (t.bd = 0) := by rw [Bool.eq_iff_iff]; simp
                      have u3' : decide (2 < t.bd) = !decide (t.bd ≤ 2) := by rw [Bool.eq_iff_iff]; simp
                      have u4 : decide (4 < t.ty) = !decide (t.ty ≤ 4) := by rw [Bool.eq_iff_iff]; simp
                      have u5 : decide (3 ≤ t.ty) = !decide (t.ty < 3) := by rw [Bool.eq_iff_iff]; simp
                      have u6' : decide (3 < t.ot) = !decide (t.ot ≤ 3) := by rw [Bool.eq_iff_iff]; simp
                      obtain ⟨rb, hrb⟩ : ∃ rb, syB nb (syAt bs (24 * k)) k loc = rb := ⟨_, rfl⟩
                      have hrd := HRT2.out
                      rw [hrb] at hrd
                      have HRB0 := hide hrb
                      obtain ⟨c1, v1⟩ : ∃ c, decide (k < loc) = c := ⟨_, rfl⟩
                      rw [v1] at u1 hrd
                      generalize decide (t.bd = 0) = c2 at *
                      generalize decide (t.bd ≤ 2) = c3 at *
                      generalize decide (t.ty ≤ 4) = c4 at *
                      generalize decide (t.ty < 3) = c5 at *
                      generalize decide (t.ot ≤ 3) = c6 at *
                      have HRB := hide hrd
                      clear hrd hrb HRT2
                      go_upto_region 17 with fail
                      go_cut [153] (fun u wx => u = .bool (!rb) ∧ wx = V)
                      case first =>
                        cases c1
                        · cases c2
                          · skip
                            cases c3
                            · go_wp2
                              go_meet
                              case rel => exact ⟨by rw [HRB.out]; simp, rfl⟩
                            cases c4
                            · go_wp2
                              go_meet
                              case rel => exact ⟨by rw [HRB.out]; simp, rfl⟩
                            cases c5
                            · go_wp2
                              go_meet
                              case rel => exact ⟨by rw [HRB.out]; simp, rfl⟩
                            cases c6
                            · go_wp2
                              go_meet
                              case rel => exact ⟨by rw [HRB.out]; simp, rfl⟩
                            go_wp2
                            go_meet
                            case rel => exact ⟨by rw [HRB.out]; simp, rfl⟩
                          · go_wp2
                            go_meet
                            case rel => exact ⟨by rw [HRB.out]; simp, rfl⟩
                        · cases c2
                          · go_wp2
                            go_meet
                            case rel => exact ⟨by rw [HRB.out]; simp, rfl⟩
                          · skip
                            cases c3
                            · go_wp2
                              go_meet
                              case rel => exact ⟨by rw [HRB.out]; simp, rfl⟩
                            cases c4
                            · go_wp2
                              go_meet
                              case rel => exact ⟨by rw [HRB.out]; simp, rfl⟩
                            cases c5
                            · cases c6
                              · go_wp2
                                go_meet
                                case rel => exact ⟨by rw [HRB.out]; simp, rfl⟩
                              · go_wp2
                                go_meet
                                case rel => exact ⟨by rw [HRB.out]; simp, rfl⟩
                            · cases c6
                              · go_wp2
                                go_meet
                                case rel => exact ⟨by rw [HRB.out]; simp, rfl⟩
                              · go_wp2
                                go_meet
                                case rel => exact ⟨by rw [HRB.out]; simp, rfl⟩
                      case rest =>
                        obtain ⟨rfl, hwc⟩ := hcut
                        rw [hwc]
                        clear hwc
                        clear HRB u1 u2 u3' u4 u5 u6' v1 NM
                        cases rb
                        · have hno : ¬ symOk bs nb loc := fun h => by
                            have h1 := PR.out.1 h k hlt
                            rw [HRB0.out] at h1
                            cases h1
                          have HNO := hide hno
                          have BF := hide S8.out.bel
                          clear hno S8 Q8 H8 HTK HP HL HLa HLok PR R0 HBY HRB0 HYK d0 d1 d2 d3 d4 d5 d6
                          go_wp2
                          go_ret3
                          exact ⟨.inr ⟨HNO.out, rfl⟩, BF.out⟩
                        · have HP2 : Hid (∀ i, i < k + 1 → syB nb (syAt bs (24 * i)) i loc = true) := fun i hi => by
                            rcases (show i < k ∨ i = k by omega) with h5 | h5
                            · exact HP.out i h5
                            · subst h5
                              exact HRB0.out
                          clear HRB0 HP
                          go_upto_region 19 with fail
                          go_wp2_with (at_builtin; refine wpList_append_lies _ rfl _ _ 22 rfl w.heap.size 40 iY (.agg #[.int .u32 0, .int .i64 0, .int .i64 0, .int .i64 0, .int .i64 0, .int .u64 0, .int .u64 0]) 7 56 Try.underlying22 hiY hzY0 hzY1 hzY2 rfl (by decide) u10 k (syC.all (L.take k)) rfl (S8.out.row.alloc _) ⟨V.heap.size, 0, none⟩ 1 1 [.int .u32 (t.nm : Int), .int .i64 t.bd, .int .i64 t.ty, .int .i64 t.ot, .int .i64 t.se, .int .u64 (t.va : Int), .int .u64 (t.sz : Int)] rfl rfl (World.news_of_block (cs := #[.int .u32 (t.nm : Int), .int .i64 t.bd, .int .i64 t.ty, .int .i64 t.ot, .int .i64 t.se, .int .u64 (t.va : Int), .int .u64 (t.sz : Int)]) (t := 40) (fr := (0, 0)) (heap_alloc_new V _)) (syC.one t) (by omega) (by unfold maxLen; omega) (by omega) (by simp; omega) _ rfl ?_)
                          intro g9 c9 W9 hown hgrow hat hlt9
                          have N9 := hide (S8.out.push HTK.out hown hgrow)
                          have z9 := N9.out.bel.size
                          clear hown hgrow hat hlt9 S8 H8 d0 d1 d2 d3 d4 d5 d6
                          go_wp2_with (at_builtin; refine wpList_append_lies _ rfl _ _ 29 rfl w.heap.size 9 iS (.string ⟨#[]⟩) 1 16 Try.underlying29 hiS hzS0 hzS1 hzS2 rfl (by decide) u11 k (csU N k) rfl (N9.out.txt.alloc _) ⟨W9.heap.size, 0, none⟩ 1 1 [.string (str y)] rfl rfl (World.news_of_block (cs := #[.string (str y)]) (t := 9) (fr := (0, 0)) (heap_alloc_new W9 _)) (by simp [Value.oneCell']) (by omega) (by unfold maxLen; omega) (by omega) (by simp; omega) _ rfl ?_)
                          intro gt ct Wt hownt hgrowt hatt hltt
                          have NT := hide (N9.out.pusht HYK.out hownt hgrowt)
                          clear hownt hgrowt hatt hltt N9 HYK
                          go_wp2
                          go_roundg (n - (k + 1))
                          case measure => omega
                          case rel => exact ⟨k + 1, by omega, rfl, by go_num, NT, HP2⟩
              · obtain rfl : k = n := by omega
                have hrow := S.out.row
                have htxt := S.out.txt
                unfold csU at htxt
                rw [List.take_of_length_le (by omega)] at hrow htxt
                obtain ⟨a9, c9, h9, r9⟩ := Rr.own hrow HLok.out
                subst h9
                obtain ⟨a8, c8, h8, r8⟩ := Rs.own htxt
                subst h8
                have R9 := hide r9
                have R8 := hide r8
                have HY := hide (PR.out.2 HP.out)
                have BF := hide hbW
                clear hrow htxt r9 r8 S hbW HP
                go_wp2
                go_ret3
                refine ⟨.inl ⟨HY.out, ?_⟩, BF.out⟩
                rw [HN2.out, HL.out, HN.out]
                exact ⟨_, _, _, _, rfl, R9.out, R8.out⟩
          · have hno : ¬ symOk bs nb loc := fun h => hu (by have := h.2.2.2.2.1; rw [hn2] at this; exact this)
            have HNO := hide hno
            have hu' : (n : Int) < (loc : Int) := by omega
            have hq' : ¬ ((loc : Int) < 1) := by omega
            have hx' : ¬ ((500 : Int) < (n : Int)) := by omega
            clear hno r r2
            go_enter Try.func11, Try.ntmps11
            go_wp2
            go_ret3
            exact ⟨.inr ⟨HNO.out, rfl⟩, Below.refl _ _⟩
        · have hno : ¬ symOk bs nb loc := fun h => hq h.2.2.2.1
          have HNO := hide hno
          have hq' : (loc : Int) < 1 := by omega
          have hx' : ¬ ((500 : Int) < (n : Int)) := by omega
          clear hno r r2
          go_enter Try.func11, Try.ntmps11
          go_wp2
          go_ret3
          exact ⟨.inr ⟨HNO.out, rfl⟩, Below.refl _ _⟩
      · have hno : ¬ symOk bs nb loc := fun h => hx (by have := h.2.2.1; rw [hn2] at this; exact this)
        have HNO := hide hno
        have hx' : (500 : Int) < (n : Int) := by omega
        clear hno r r2
        go_enter Try.func11, Try.ntmps11
        go_wp2
        go_ret3
        exact ⟨.inr ⟨HNO.out, rfl⟩, Below.refl _ _⟩
    · have hno : ¬ symOk bs nb loc := fun h => h1 (by have := h.2.1; rw [hn2] at this; exact this)
      have HNO := hide hno
      have h1' : (n : Int) < 1 := by omega
      clear hno r r2
      go_enter Try.func11, Try.ntmps11
      go_wp2
      go_ret3
      exact ⟨.inr ⟨HNO.out, rfl⟩, Below.refl _ _⟩
  · have hno : ¬ symOk bs nb loc := fun h => hm (by have := h.1; rw [hl] at this; exact this)
    have HNO := hide hno
    have m0 : ((len : Int) % 24 != 0) = true := by simp; omega
    clear hno r r2
    go_enter Try.func11, Try.ntmps11
    go_wp2
    go_ret3
    exact ⟨.inr ⟨HNO.out, rfl⟩, Below.refl _ _⟩

end Go.Proofs.Ytonhahijblnfhaa
