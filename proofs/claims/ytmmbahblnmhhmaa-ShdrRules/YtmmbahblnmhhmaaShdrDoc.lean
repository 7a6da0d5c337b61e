/- The contract of the document's Shdrs: the headers and their names just where the rules hold. -/
import Derived.Test.YtmmbahblnmhhmaaShdrKnown
import Derived.Test.YtmmbahblnmhhmaaNum9
import Derived.Test.YtmmbahblnmhhmaaShdrNeq
namespace Go.Proofs.Ytmmbahblnmhhmaa
open Go.RowKit
set_option linter.unusedVariables false
set_option linter.unusedSimpArgs false

/-- The document's way of asking. -/
theorem rt_doc (bs : List Int) (s : Sh) (k len : Nat) (hk : 0 < k) (hl : bs.length = len) :
    rtB s k len = (knB s.ty && flB s.fl && decide (s.ad = 0) && (decide (s.al = 0) || (isPow (s.al : Int) && decide (s.al ≤ 4096))) && (dtB bs s && !(decide (s.ty = 8) && decide (67108864 < s.sz)))) := by
  unfold rtB
  rw [if_neg (by omega)]
  have h1 : alB s.al = (decide (s.al = 0) || (isPow (s.al : Int) && decide (s.al ≤ 4096))) := by
    unfold alB
    rw [Bool.eq_iff_iff]
    simp
    constructor
    · rintro (h | ⟨h1, h2⟩)
      · exact .inl h
      · exact .inr ⟨h2, h1⟩
    · rintro (h | ⟨h1, h2⟩)
      · exact .inl h
      · exact .inr ⟨h2, h1⟩
  rw [h1]
  rcases hk : knB s.ty with _ | _
  · simp
  · have h0 : s.ty ≠ 0 := fun e => by rw [e] at hk; exact absurd hk (by decide)
    have h2 : hlB s len = (dtB bs s && !(decide (s.ty = 8) && decide (67108864 < s.sz))) := by
      unfold hlB dtB
      by_cases h8 : s.ty = 8
      · rw [if_pos h8, if_pos (Or.inl h8)]
        simp only [h8, decide_true, Bool.true_and]
        rw [Bool.eq_iff_iff]
        simp
      · rw [if_neg h8, if_neg (by omega)]
        unfold cutOk
        rw [hl]
        simp [h8]
        constructor <;> intro h <;> omega
    rw [h2]

theorem shAt_got {bs : List Int} (hb : Bytes bs) (p : Nat) : got bs ((p : Int)) 4 = ((shAt bs p).nm : Int) ∧ got bs ((p : Int) + 4) 4 = ((shAt bs p).ty : Int) ∧ got bs ((p : Int) + 8) 8 = ((shAt bs p).fl : Int) ∧ got bs ((p : Int) + 16) 8 = ((shAt bs p).ad : Int) ∧ got bs ((p : Int) + 24) 8 = ((shAt bs p).off : Int) ∧ got bs ((p : Int) + 32) 8 = ((shAt bs p).sz : Int) ∧ got bs ((p : Int) + 40) 4 = ((shAt bs p).lk : Int) ∧ got bs ((p : Int) + 44) 4 = ((shAt bs p).nf : Int) ∧ got bs ((p : Int) + 48) 8 = ((shAt bs p).al : Int) ∧ got bs ((p : Int) + 56) 8 = ((shAt bs p).en : Int) := by
  have h : ∀ (q : Nat) (n : Nat) (z : Int), ((q : Nat) : Int) = z → got bs z n = ((got bs ((q : Nat) : Int) n).toNat : Int) := fun q n z e => by
    rw [← e]
    have := got_nonneg hb (q : Int) n
    omega
  exact ⟨h (p) 4 _ (by omega), h (p + 4) 4 _ (by omega), h (p + 8) 8 _ (by omega), h (p + 16) 8 _ (by omega), h (p + 24) 8 _ (by omega), h (p + 32) 8 _ (by omega), h (p + 40) 4 _ (by omega), h (p + 44) 4 _ (by omega), h (p + 48) 8 _ (by omega), h (p + 56) 8 _ (by omega)⟩

structure RpS (W0 wr : World) (v : Value) (L : List Sh) (k : Nat) : Prop where
  row : wr.ownsRow W0.heap.size 47 10 v k (shCells (L.take k))
  bel : Below W0.heap.size W0 wr
theorem RpS.below {W0 wr W : World} {v : Value} {L : List Sh} {k : Nat} (h : RpS W0 wr v L k) (hw : Below wr.heap.size wr W) : RpS W0 W v L k :=
  ⟨ownsRow_kept0 h.row hw, h.bel.trans (hw.mono h.bel.size)⟩
theorem RpS.head {W0 wr : World} {v : Value} {L : List Sh} {k b : Nat} {o n x : Int} (h : RpS W0 wr v L k) (hb : HdB W0 b o n x) (hl : b < W0.heap.size) : HdB wr b o n x := hb.below hl h.bel

theorem RpS.push {W0 wr W1 W2 : World} {v : Value} {L : List Sh} {k : Nat} {g cap : Nat} {t : Sh} (h : RpS W0 wr v L k) (ht : L[k]? = some t) (b1 : Below wr.heap.size wr W1) (hown : W2.ownsRow W0.heap.size 47 10 (.slice (some ⟨g, 0, none⟩) (k + 1) cap) (k + 1) (shCells (L.take k) ++ t.cells)) (hgrow : W1.grownBy W2 v.ownBlock) :
    RpS W0 W2 (.slice (some ⟨g, 0, none⟩) (k + 1) cap) L (k + 1) := by
  have e : shCells (L.take (k + 1)) = shCells (L.take k) ++ t.cells := by
    rw [List.take_add_one, ht, shCells_append]
    simp [shCells]
  refine ⟨by rw [e]; exact hown, ?_⟩
  have z := h.bel.size
  have z1 := b1.size
  exact (h.bel.trans (b1.mono z)).grown hgrow (by omega) (fun j hj => (h.row.lt j hj).1)

set_option maxHeartbeats 6400000 in
set_option maxRecDepth 20000 in
theorem rshdrs_any (a : Option Addr) (len cap : Nat) (bs : List Int) (o x : Int) (N : Nat) (w : World) (r : Rd w a len cap bs) (hb : len ≤ 140737488355328)
    (ho : 0 ≤ o) (ho' : o ≤ 18446744073709551615) (hN : 1 ≤ N) (hN' : N ≤ 100000) (hx : -9223372036854775808 ≤ x) (hx' : x ≤ 9223372036854775807) :
    Calls Try.prog 11 #[.slice a len cap, hdV o (N : Int) x] w fun e w' => PrsR bs o (N : Int) x e w' ∧ Below w.heap.size w w' := by
  have hl := r.length
  have hle := r.le
  have hmx := r.max
  obtain ⟨iH, hiH, hzH0, hzH1, hzH2⟩ := info_parts Try.infoSh
  obtain ⟨iS, hiS, hzS0, hzS1, hzS2⟩ := info_parts Try.infoStr
  have b0 := (Below.refl w.heap.size w).alloc (Nat.le_refl _) (.cells #[.int .u64 o, .int .i64 (N : Int), .int .i64 x] 27)
  have z0 : (w.alloc (.cells #[.int .u64 o, .int .i64 (N : Int), .int .i64 x] 27)).heap.size = w.heap.size + 1 := by simp
  have X0 := hide (HdB.new w o (N : Int) x)
  have R0 := hide (r.below b0)
  have HBY := hide r.bytes
  have B0 := hide b0
  have h64 : IntKind.u64.wrap ((N : Int) * 64) = (N : Int) * 64 := u64_wrap_id _ (by omega) (by omega)
  have hNz : ¬ ((N : Int) < 0) := by omega
  have WI := hide (fun W => rwithin_any o ((N : Int) * 64) (len : Int) W ho ho' (by omega) (by omega) (by omega) (by omega))
  unfold hdV
  by_cases hw : o + 64 * (N : Int) ≤ (len : Int)
  · have ew : withinOf o ((N : Int) * 64) (len : Int) = true := by unfold withinOf; exact decide_eq_true (by omega)
    rw [ew] at WI
    obtain ⟨O, hO⟩ := Int.eq_ofNat_of_zero_le ho
    subst hO
    have hw2 : O + 64 * N ≤ len := by omega
    obtain ⟨L, hL⟩ : ∃ L, hdsL bs O N = L := ⟨_, rfl⟩
    have hLl : L.length = N := by rw [← hL]; exact hdsL_len _ _ _
    have hLa : ∀ i, i < N → L[i]? = some (shAt bs (O + 64 * i)) := fun i hi => by rw [← hL]; exact hdsL_at _ _ _ _ hi
    have hLok : ∀ s ∈ L, s.Ok := by rw [← hL]; exact hdsL_ok HBY.out _ _
    have PR : Hid (prsOk bs (O : Int) (N : Int) x ↔ ((∀ i, i < N → rtB (shAt bs (O + 64 * i)) i len = true) ∧ nmPr bs L x)) := by
      show prsOk bs (O : Int) (N : Int) x ↔ _
      unfold prsOk
      simp only [Int.toNat_natCast]
      rw [hL, hl]
      constructor
      · intro h; exact ⟨h.2.2.1, h.2.2.2⟩
      · intro h; exact ⟨by omega, by omega, h.1, h.2⟩
    have HL := hide hL
    have HLa := hide hLa
    have HLok := hide hLok
    clear hL hLa hLok hw ew b0 r
    obtain ⟨q0, q1, q2, _, _, _⟩ := X0.out.at
    go_enter Try.func11, Try.ntmps11
    go_upto_region 1 with fail
    obtain ⟨W0, hW0⟩ : ∃ W0, w.alloc (.cells #[.int .u64 (O : Int), .int .i64 (N : Int), .int .i64 x] 27) = W0 := ⟨_, rfl⟩
    rw [hW0] at X0 R0 B0 z0 q0 q1 q2 ⊢
    have hlt0 : w.heap.size < W0.heap.size := by omega
    clear hW0 z0
    go_upto_region 4 with (go_at_call 23; refine (WI.out _).mono ?_; rintro e w' ⟨rfl, hw'⟩; rw [hw']; clear hw' w')
    clear WI q0 q1 q2
    have S0 : Hid (RpS W0 W0 (.slice none 0 0) L 0) := ⟨World.ownsRow_nil _ _ _ _, Below.refl _ _⟩
    go_wp2
    go_loopg [7, 8] N (fun gg v i wr => ∃ k : Nat, k ≤ N ∧ gg = N - k ∧ i = .int .i64 (k : Int) ∧ Hid (RpS W0 wr v L k) ∧ Hid (∀ i, i < k → rtB (shAt bs (O + 64 * i)) i len = true))
    case atStart => exact ⟨0, by omega, rfl, rfl, S0, fun i hi => by omega⟩
    case round =>
      obtain ⟨k, hk, rfl, rfl, S, HP⟩ := hrel
      clear S0
      have hbW := S.out.bel
      have zr := hbW.size
      obtain ⟨q0, q1, q2, _, _, _⟩ := (S.out.head X0.out hlt0).at
      by_cases hlt : k < N
      · have hlt' : (k : Int) < (N : Int) := by omega
        obtain ⟨p, hp⟩ : ∃ p, O + 64 * k = p := ⟨_, rfl⟩
        obtain ⟨t, ht⟩ : ∃ t, shAt bs p = t := ⟨_, rfl⟩
        have htk : L[k]? = some t := by rw [← ht, ← hp]; exact HLa.out k hlt
        have htok := HLok.out t (List.mem_of_getElem? htk)
        have hk2 : IntKind.u64.wrap ((k : Int) * 64) = (k : Int) * 64 := u64_wrap_id _ (by omega) (by omega)
        have e1 : (O : Int) + (k : Int) * 64 = (p : Int) := by omega
        have hp1 : p + 64 ≤ len := by omega
        obtain ⟨G, hG⟩ : ∃ G : Int → Int → Int, ∀ q n, got bs q n.toNat = G q n := ⟨_, fun _ _ => rfl⟩
        obtain ⟨A0, A1, A2, A3, A4, A5, A6, A7, A8, A9⟩ := shAt_got HBY.out p
        have E0 : G ((p : Int)) 4 = (t.nm : Int) := by rw [← ht, ← hG]; exact A0
        have E1 : G ((p : Int) + 4) 4 = (t.ty : Int) := by rw [← ht, ← hG]; exact A1
        have E2 : G ((p : Int) + 8) 8 = (t.fl : Int) := by rw [← ht, ← hG]; exact A2
        have E3 : G ((p : Int) + 16) 8 = (t.ad : Int) := by rw [← ht, ← hG]; exact A3
        have E4 : G ((p : Int) + 24) 8 = (t.off : Int) := by rw [← ht, ← hG]; exact A4
        have E5 : G ((p : Int) + 32) 8 = (t.sz : Int) := by rw [← ht, ← hG]; exact A5
        have E6 : G ((p : Int) + 40) 4 = (t.lk : Int) := by rw [← ht, ← hG]; exact A6
        have E7 : G ((p : Int) + 44) 4 = (t.nf : Int) := by rw [← ht, ← hG]; exact A7
        have E8 : G ((p : Int) + 48) 8 = (t.al : Int) := by rw [← ht, ← hG]; exact A8
        have E9 : G ((p : Int) + 56) 8 = (t.en : Int) := by rw [← ht, ← hG]; exact A9
        have NU : Hid (∀ q n : Int, 0 ≤ q → q ≤ 18446744073709551615 → n = 4 ∨ n = 8 → Calls Try.prog 24 #[.slice a len cap, .int .u64 q, .int .i64 n] wr fun e w' => e = .returned (.int .u64 (G q n)) ∧ w' = wr) := fun q n h0 h1 h2 => by
          obtain ⟨m, rfl⟩ := Int.eq_ofNat_of_zero_le (show 0 ≤ n by omega)
          rw [← hG]
          exact num9_any a len cap bs q m wr (R0.out.below hbW) h0 h1 (by omega) (by omega)
        have HRT : Hid (rtB (shAt bs (O + 64 * k)) k len = rtB t k len) := by rw [hp, ht]; exact rfl
        have m0 := htok.nm
        have m1 := htok.ty
        have m2 := htok.fl
        have m3 := htok.ad
        have m4 := htok.off
        have m5 := htok.sz
        have m6 := htok.lk
        have m7 := htok.nf
        have m8 := htok.al
        have m9 := htok.en
        have HTK := hide htk
        have HTO := hide htok
        have HBW := hide hbW
        clear hG ht htk htok hp hbW A0 A1 A2 A3 A4 A5 A6 A7 A8 A9
        go_upto_region 9 with (go_at_call 24; refine (NU.out _ _ (by omega) (by omega) (by omega)).mono ?_; rintro e w' ⟨rfl, hw'⟩; rw [hw']; clear hw' w')
        have H8 := hide (ShB.new wr t)
        have B8 := hide ((Below.refl wr.heap.size wr).alloc (Nat.le_refl _) (.cells t.cells.toArray 47))
        obtain ⟨V, hV⟩ : ∃ V, wr.alloc (.cells #[.int .u32 (t.nm : Int), .int .u32 (t.ty : Int), .int .u64 (t.fl : Int), .int .u64 (t.ad : Int), .int .u64 (t.off : Int), .int .u64 (t.sz : Int), .int .u32 (t.lk : Int), .int .u32 (t.nf : Int), .int .u64 (t.al : Int), .int .u64 (t.en : Int)] 47) = V := ⟨_, rfl⟩
        change Hid (ShB (wr.alloc (.cells #[.int .u32 (t.nm : Int), .int .u32 (t.ty : Int), .int .u64 (t.fl : Int), .int .u64 (t.ad : Int), .int .u64 (t.off : Int), .int .u64 (t.sz : Int), .int .u32 (t.lk : Int), .int .u32 (t.nf : Int), .int .u64 (t.al : Int), .int .u64 (t.en : Int)] 47)) _ _) at H8
        change Hid (Below _ _ (wr.alloc (.cells #[.int .u32 (t.nm : Int), .int .u32 (t.ty : Int), .int .u64 (t.fl : Int), .int .u64 (t.ad : Int), .int .u64 (t.off : Int), .int .u64 (t.sz : Int), .int .u32 (t.lk : Int), .int .u32 (t.nf : Int), .int .u64 (t.al : Int), .int .u64 (t.en : Int)] 47))) at B8
        rw [hV] at H8 B8 ⊢
        have S8 := hide (S.out.below B8.out)
        have R8 := hide ((R0.out.below HBW.out).below B8.out)
        have hXV := H8.out.lt
        obtain ⟨X, hX⟩ : ∃ X, wr.heap.size = X := ⟨_, rfl⟩
        rw [hX] at H8 hXV ⊢
        have zV := S8.out.bel.size
        clear hV hX S B8 HBW E0 E1 E2 E3 E4 E5 E6 E7 E8 E9 NU q0 q1 q2 G
        obtain ⟨d0, d1, d2, d3, d4, d5, d6, d7, d8, d9⟩ := H8.out.at
        simp only [Nat.zero_add] at d0 d1 d2 d3 d4 d5 d6 d7 d8 d9
        by_cases hk0 : k = 0
        · have hk0' : ((k : Int) == 0) = true := by simp; omega
          by_cases hz : t = sh0
          · have HP2 : Hid (∀ i, i < k + 1 → rtB (shAt bs (O + 64 * i)) i len = true) := fun i hi => by
              obtain rfl : i = k := by omega
              rw [HRT.out, hz, hk0]
              rfl
            have hzb : zrB t = true := (zrB_iff t).2 hz
            have S9 := S8
            clear hz hk0 HRT S8
            go_upto_region 12 with (refine wpList_neq_sh _ rfl _ _ _ rfl t rfl rfl _ hzb ?_)
            go_wp2_with (at_builtin; refine wpList_append_lies _ rfl _ _ 22 rfl W0.heap.size 47 iH (.agg #[.int .u32 0, .int .u32 0, .int .u64 0, .int .u64 0, .int .u64 0, .int .u64 0, .int .u32 0, .int .u32 0, .int .u64 0, .int .u64 0]) 10 64 Try.underlying22 hiH hzH0 hzH1 hzH2 rfl (by decide) u7 k (shCells (L.take k)) rfl (S9.out.row.alloc _) ⟨V.heap.size, 0, none⟩ 1 1 [.int .u32 (t.nm : Int), .int .u32 (t.ty : Int), .int .u64 (t.fl : Int), .int .u64 (t.ad : Int), .int .u64 (t.off : Int), .int .u64 (t.sz : Int), .int .u32 (t.lk : Int), .int .u32 (t.nf : Int), .int .u64 (t.al : Int), .int .u64 (t.en : Int)] rfl rfl (World.news_of_block (cs := #[.int .u32 (t.nm : Int), .int .u32 (t.ty : Int), .int .u64 (t.fl : Int), .int .u64 (t.ad : Int), .int .u64 (t.off : Int), .int .u64 (t.sz : Int), .int .u32 (t.lk : Int), .int .u32 (t.nf : Int), .int .u64 (t.al : Int), .int .u64 (t.en : Int)]) (t := 47) (fr := (0, 0)) (heap_alloc_new V _)) (shCells_oneCell [t]) (by omega) (by unfold maxLen; omega) (by omega) (by simp; omega) _ rfl ?_)
            intro g9 c9 W9 hown hgrow hat hlt9
            have N9 := hide (S9.out.push HTK.out ((Below.refl V.heap.size V).alloc (Nat.le_refl _) _) hown hgrow)
            clear hown hgrow hat hlt9 S9 H8 d0 d1 d2 d3 d4 d5 d6 d7 d8 d9
            go_wp2
            go_roundg (N - (k + 1))
            case measure => omega
            case rel => exact ⟨k + 1, by omega, rfl, by go_num, N9, HP2⟩
          · have hno : ¬ prsOk bs (O : Int) (N : Int) x := fun h => by
              have h1 := (PR.out.1 h).1 k hlt
              rw [HRT.out, hk0] at h1
              have h2 : zrB t = true := h1
              exact hz ((zrB_iff t).1 h2)
            have HNO := hide hno
            have BF := hide (B0.out.trans (S8.out.bel.mono (by omega)))
            have hzb : zrB t = false := agg_ne t hz
            clear hno hz S8 R8 H8 HTK HTO HRT HP HL HLa HLok PR X0 R0 B0 HBY hk0
            go_upto_region 11 with (refine wpList_neq_sh _ rfl _ _ _ rfl t rfl rfl _ hzb ?_)
            go_wp2
            go_ret3
            exact ⟨.inr ⟨HNO.out, rfl⟩, BF.out⟩
        · have hk0' : ((k : Int) == 0) = false := by simp; omega
          have DA := hide (rdata_any a len cap bs t V R8.out HTO.out hb)
          unfold shV at DA
          have hrd := rt_doc bs t k len (by omega) hl
          obtain ⟨rb, hrb⟩ : ∃ rb, rtB t k len = rb := ⟨_, rfl⟩
          rw [hrb] at hrd HRT
          clear hrb hk0
          go_upto_region 14 with (go_at_call 17; refine DA.out.mono ?_; rintro e W1 ⟨a1, l1, k1, rfl, r1, b1⟩; have S1 := hide (S8.out.below b1); have H1 := hide (H8.out.below hXV b1); clear r1 b1)
          clear d0 d1 d2 d3 d4 d5 d6 d7 d8 d9 S8 H8 R8 DA
          obtain ⟨d0, d1, d2, d3, d4, d5, d6, d7, d8, d9⟩ := H1.out.at
          simp only [Nat.zero_add] at d0 d1 d2 d3 d4 d5 d6 d7 d8 d9
          have K1 := hide (fun W => rknown_any t.ty W m1)
          have K2 := hide (fun W => rpow2_any (t.al : Int) W (by omega) (by omega))
          have u0 : ((t.ad : Int) != 0) = !decide (t.ad = 0) := by rw [Bool.eq_iff_iff]; simp
          have u1 : (bits .andNot .u64 (t.fl : Int) 631 != 0) = !flB t.fl := rfl
          have u2 : ((t.al : Int) != 0) = !decide (t.al = 0) := by rw [Bool.eq_iff_iff]; simp
          have u3' : decide (4096 < (t.al : Int)) = !decide (t.al ≤ 4096) := by rw [Bool.eq_iff_iff]; simp; omega
          have u4' : ((t.ty : Int) == 8) = decide (t.ty = 8) := by rw [Bool.eq_iff_iff]; simp; omega
          have u5' : decide (67108864 < (t.sz : Int)) = decide (67108864 < t.sz) := by rw [decide_eq_decide]; omega
          have hadno : flB t.fl = true → flB t.fl = true := id
          generalize dtB bs t = t5 at *
          generalize decide (67108864 < t.sz) = t7 at *
          generalize decide (t.ty = 8) = t6 at *
          generalize decide (t.al ≤ 4096) = t9 at *
          generalize decide (t.al = 0) = t8 at *
          generalize decide (t.ad = 0) = t3 at *
          generalize flB t.fl = t2 at *
          generalize knB t.ty = t1 at *
          generalize isPow (t.al : Int) = t4 at *
          have HRB := hide hrd
          clear hrd hadno
          go_cut [150] (fun u wx => u = .bool (!rb) ∧ wx = W1)
          case first =>
            cases t1
            · go_wp2_with (first | (go_at_call 25; refine (K1.out _).mono ?_; rintro e w' ⟨rfl, hw'⟩; rw [hw']; clear hw' w') | (go_at_call 26; refine (K2.out _).mono ?_; rintro e w' ⟨rfl, hw'⟩; rw [hw']; clear hw' w'))
              go_meet
              case rel => exact ⟨by rw [HRB.out]; rfl, rfl⟩
            cases t2
            · go_wp2_with (first | (go_at_call 25; refine (K1.out _).mono ?_; rintro e w' ⟨rfl, hw'⟩; rw [hw']; clear hw' w') | (go_at_call 26; refine (K2.out _).mono ?_; rintro e w' ⟨rfl, hw'⟩; rw [hw']; clear hw' w'))
              go_meet
              case rel => exact ⟨by rw [HRB.out]; rfl, rfl⟩
            cases t3
            · go_wp2_with (first | (go_at_call 25; refine (K1.out _).mono ?_; rintro e w' ⟨rfl, hw'⟩; rw [hw']; clear hw' w') | (go_at_call 26; refine (K2.out _).mono ?_; rintro e w' ⟨rfl, hw'⟩; rw [hw']; clear hw' w'))
              go_meet
              case rel => exact ⟨by rw [HRB.out]; rfl, rfl⟩
            cases t8
            · cases t4
              · go_wp2_with (first | (go_at_call 25; refine (K1.out _).mono ?_; rintro e w' ⟨rfl, hw'⟩; rw [hw']; clear hw' w') | (go_at_call 26; refine (K2.out _).mono ?_; rintro e w' ⟨rfl, hw'⟩; rw [hw']; clear hw' w'))
                go_meet
                case rel => exact ⟨by rw [HRB.out]; rfl, rfl⟩
              cases t9
              · go_wp2_with (first | (go_at_call 25; refine (K1.out _).mono ?_; rintro e w' ⟨rfl, hw'⟩; rw [hw']; clear hw' w') | (go_at_call 26; refine (K2.out _).mono ?_; rintro e w' ⟨rfl, hw'⟩; rw [hw']; clear hw' w'))
                go_meet
                case rel => exact ⟨by rw [HRB.out]; rfl, rfl⟩
              cases t5
              · go_wp2_with (first | (go_at_call 25; refine (K1.out _).mono ?_; rintro e w' ⟨rfl, hw'⟩; rw [hw']; clear hw' w') | (go_at_call 26; refine (K2.out _).mono ?_; rintro e w' ⟨rfl, hw'⟩; rw [hw']; clear hw' w'))
                go_meet
                case rel => exact ⟨by rw [HRB.out]; rfl, rfl⟩
              cases t6
              · go_wp2_with (first | (go_at_call 25; refine (K1.out _).mono ?_; rintro e w' ⟨rfl, hw'⟩; rw [hw']; clear hw' w') | (go_at_call 26; refine (K2.out _).mono ?_; rintro e w' ⟨rfl, hw'⟩; rw [hw']; clear hw' w'))
                go_meet
                case rel => exact ⟨by rw [HRB.out]; rfl, rfl⟩
              cases t7
              · go_wp2_with (first | (go_at_call 25; refine (K1.out _).mono ?_; rintro e w' ⟨rfl, hw'⟩; rw [hw']; clear hw' w') | (go_at_call 26; refine (K2.out _).mono ?_; rintro e w' ⟨rfl, hw'⟩; rw [hw']; clear hw' w'))
                go_meet
                case rel => exact ⟨by rw [HRB.out]; rfl, rfl⟩
              · go_wp2_with (first | (go_at_call 25; refine (K1.out _).mono ?_; rintro e w' ⟨rfl, hw'⟩; rw [hw']; clear hw' w') | (go_at_call 26; refine (K2.out _).mono ?_; rintro e w' ⟨rfl, hw'⟩; rw [hw']; clear hw' w'))
                go_meet
                case rel => exact ⟨by rw [HRB.out]; rfl, rfl⟩
            · cases t5
              · go_wp2_with (first | (go_at_call 25; refine (K1.out _).mono ?_; rintro e w' ⟨rfl, hw'⟩; rw [hw']; clear hw' w') | (go_at_call 26; refine (K2.out _).mono ?_; rintro e w' ⟨rfl, hw'⟩; rw [hw']; clear hw' w'))
                go_meet
                case rel => exact ⟨by rw [HRB.out]; rfl, rfl⟩
              cases t6
              · go_wp2_with (first | (go_at_call 25; refine (K1.out _).mono ?_; rintro e w' ⟨rfl, hw'⟩; rw [hw']; clear hw' w') | (go_at_call 26; refine (K2.out _).mono ?_; rintro e w' ⟨rfl, hw'⟩; rw [hw']; clear hw' w'))
                go_meet
                case rel => exact ⟨by rw [HRB.out]; rfl, rfl⟩
              cases t7
              · go_wp2_with (first | (go_at_call 25; refine (K1.out _).mono ?_; rintro e w' ⟨rfl, hw'⟩; rw [hw']; clear hw' w') | (go_at_call 26; refine (K2.out _).mono ?_; rintro e w' ⟨rfl, hw'⟩; rw [hw']; clear hw' w'))
                go_meet
                case rel => exact ⟨by rw [HRB.out]; rfl, rfl⟩
              · go_wp2_with (first | (go_at_call 25; refine (K1.out _).mono ?_; rintro e w' ⟨rfl, hw'⟩; rw [hw']; clear hw' w') | (go_at_call 26; refine (K2.out _).mono ?_; rintro e w' ⟨rfl, hw'⟩; rw [hw']; clear hw' w'))
                go_meet
                case rel => exact ⟨by rw [HRB.out]; rfl, rfl⟩
          case rest =>
            obtain ⟨rfl, rfl⟩ := hcut
            clear HRB K1 K2 u0 u1 u2 u3' u4' u5'
            cases rb
            · have hno : ¬ prsOk bs (O : Int) (N : Int) x := fun h => by
                have h1 := (PR.out.1 h).1 k hlt
                rw [HRT.out] at h1
                cases h1
              have HNO := hide hno
              have BF := hide (B0.out.trans (S1.out.bel.mono (by omega)))
              clear hno S1 H1 HTK HTO HRT HP HL HLa HLok PR X0 R0 B0 HBY d0 d1 d2 d3 d4 d5 d6 d7 d8 d9
              go_wp2
              go_ret3
              exact ⟨.inr ⟨HNO.out, rfl⟩, BF.out⟩
            · have HP2 : Hid (∀ i, i < k + 1 → rtB (shAt bs (O + 64 * i)) i len = true) := fun i hi => by
                rcases (show i < k ∨ i = k by omega) with h5 | h5
                · exact HP.out i h5
                · subst h5
                  exact HRT.out
              have zc := S1.out.bel.size
              clear HRT HP
              go_upto_region 16 with fail
              go_wp2_with (at_builtin; refine wpList_append_lies _ rfl _ _ 22 rfl W0.heap.size 47 iH (.agg #[.int .u32 0, .int .u32 0, .int .u64 0, .int .u64 0, .int .u64 0, .int .u64 0, .int .u32 0, .int .u32 0, .int .u64 0, .int .u64 0]) 10 64 Try.underlying22 hiH hzH0 hzH1 hzH2 rfl (by decide) u7 k (shCells (L.take k)) rfl (S1.out.row.alloc _) ⟨wc.heap.size, 0, none⟩ 1 1 [.int .u32 (t.nm : Int), .int .u32 (t.ty : Int), .int .u64 (t.fl : Int), .int .u64 (t.ad : Int), .int .u64 (t.off : Int), .int .u64 (t.sz : Int), .int .u32 (t.lk : Int), .int .u32 (t.nf : Int), .int .u64 (t.al : Int), .int .u64 (t.en : Int)] rfl rfl (World.news_of_block (cs := #[.int .u32 (t.nm : Int), .int .u32 (t.ty : Int), .int .u64 (t.fl : Int), .int .u64 (t.ad : Int), .int .u64 (t.off : Int), .int .u64 (t.sz : Int), .int .u32 (t.lk : Int), .int .u32 (t.nf : Int), .int .u64 (t.al : Int), .int .u64 (t.en : Int)]) (t := 47) (fr := (0, 0)) (heap_alloc_new wc _)) (shCells_oneCell [t]) (by omega) (by unfold maxLen; omega) (by omega) (by simp; omega) _ rfl ?_)
              intro g9 c9 W9 hown hgrow hat hlt9
              have N9 := hide (S1.out.push HTK.out ((Below.refl wc.heap.size wc).alloc (Nat.le_refl _) _) hown hgrow)
              clear hown hgrow hat hlt9 S1 H1 d0 d1 d2 d3 d4 d5 d6 d7 d8 d9
              go_wp2
              go_roundg (N - (k + 1))
              case measure => omega
              case rel => exact ⟨k + 1, by omega, rfl, by go_num, N9, HP2⟩
      · obtain rfl : k = N := by omega
        obtain ⟨g7, c7, hv7, hg7, _⟩ := S.out.row.form (by omega)
        subst hv7
        have hrow := S.out.row
        rw [List.take_of_length_le (by omega)] at hrow
        obtain ⟨a9, k9, h9, r9⟩ := Rh.own hrow HLok.out
        cases h9
        have RL := hide r9
        have RB := hide (R0.out.below hbW)
        have BF := hide (B0.out.trans (hbW.mono (by omega)))
        have zw := BF.out.size
        have hle9 := r9.le
        have hmx9 := r9.max
        clear hrow S hbW
        have X9 : Hid (¬ (1 ≤ x ∧ x < (k : Int)) → ¬ nmPr bs L x) := fun h hn => by
          obtain ⟨h1, h2, h3, _⟩ := hn
          rw [hLl] at h2
          have h0 : x = 0 := by omega
          subst h0
          have e1 : tbS L 0 = shAt bs (O + 64 * 0) := by
            unfold tbS
            have := HLa.out 0 (by omega)
            simp [this]
          have e2 := HP.out 0 (by omega)
          have e3 : shAt bs (O + 64 * 0) = sh0 := (zrB_iff _).1 e2
          rw [e1, e3] at h3
          cases h3
        by_cases hx1 : 1 ≤ x ∧ x < (k : Int)
        · obtain ⟨p, rfl⟩ := Int.eq_ofNat_of_zero_le (show 0 ≤ x by omega)
          have hp1 : 1 ≤ p := by omega
          have hp2 : p < k := by omega
          have hx2 : ¬ ((p : Int) < 1) := by omega
          have hx3 : ¬ ((k : Int) ≤ (p : Int)) := by omega
          obtain ⟨s, hs⟩ : ∃ s, L[p]? = some s := ⟨_, List.getElem?_eq_getElem (by omega)⟩
          have hsok := HLok.out s (List.mem_of_getElem? hs)
          have hts : tbS L (p : Int) = s := by unfold tbS; simp [hs]
          obtain ⟨b', o', e', hc⟩ := r9.addr (by omega)
          cases e'
          obtain ⟨c0, c1, c2, c3, c4, c5, c6, c7', c8, c9⟩ := hc p s hs
          simp only [Nat.zero_add] at c0 c1 c2 c3 c4 c5 c6 c7' c8 c9
          have hsty := hsok.ty
          clear hc r9 hx1
          by_cases h3 : s.ty = 3
          · have h3' : ((s.ty : Int) != 3) = false := by simp; omega
            have DT := hide (rdata_any a len cap bs s wr RB.out hsok hb)
            unfold shV at DT
            have PR2 : Hid (nmPr bs L (p : Int) ↔ ∀ (j : Nat) (t : Sh), L[j]? = some t → (gtO (dtL bs s) t.nm).isSome = true) := by
              constructor
              · intro h; rw [← hts]; exact h.2.2.2
              · intro h; exact ⟨by omega, by omega, by rw [hts]; exact h3, by rw [hts]; exact h⟩
            have LN : Hid (nmL bs L (p : Int) = L.map (fun t => (gtO (dtL bs s) t.nm).getD [])) := by
              show nmL bs L (p : Int) = _
              unfold nmL
              rw [hts]
            clear h3 hsok hts hs X9
            go_upto_region 20 with (go_at_call 17; refine DT.out.mono ?_; rintro e W5 ⟨a5, l5, k5, rfl, r5, b5⟩)
            have RT := hide r5
            have RL5 := hide (RL.out.below b5)
            have BF5 := hide (BF.out.trans (b5.mono zw))
            have z5 := BF5.out.size
            obtain ⟨NN, hNN⟩ : ∃ NN, L.map (fun t => (gtO (dtL bs s) t.nm).getD []) = NN := ⟨_, rfl⟩
            have hNl : NN.length = k := by rw [← hNN]; simp [hLl]
            have hNat : ∀ (j : Nat) (t : Sh), L[j]? = some t → NN[j]? = some ((gtO (dtL bs s) t.nm).getD []) := fun j t ht => by rw [← hNN]; simp [ht]
            have LN2 := hide (LN.out.trans hNN)
            have HNat := hide hNat
            have HP0 := HP
            clear r5 b5 RL RB BF DT LN hNN hNat c0 c1 c2 c3 c4 c5 c6 c7' c8 c9 h3' q0 q1 q2 HP X0 R0 B0 HBY zr
            generalize dtL bs s = T at *
            generalize dtB bs s = tb at *
            have O5 : Hid (W5.ownsRow W5.heap.size 9 1 (.slice none 0 0) 0 (csT (NN.take 0))) := World.ownsRow_nil _ _ _ _
            go_wp2
            go_loopg [15, 16] k (fun gg v i wr => ∃ j : Nat, j ≤ k ∧ gg = k - j ∧ i = .int .i64 (j : Int) ∧ Hid (wr.ownsRow W5.heap.size 9 1 v j (csT (NN.take j))) ∧ Hid (Below W5.heap.size W5 wr) ∧ Hid (∀ (i : Nat) (t : Sh), i < j → L[i]? = some t → (gtO T t.nm).isSome = true))
            case atStart => exact ⟨0, by omega, rfl, rfl, O5, Below.refl _ _, fun i t hi => by omega⟩
            case round =>
              obtain ⟨j, hj, rfl, rfl, OJ, BJ, HPJ⟩ := hrel
              clear O5
              have zj := BJ.out.size
              by_cases hjl : j < k
              · obtain ⟨t, ht⟩ : ∃ t, L[j]? = some t := ⟨_, List.getElem?_eq_getElem (by omega)⟩
                have htok := HLok.out t (List.mem_of_getElem? ht)
                obtain ⟨b', o', e', hc⟩ := (RL5.out.below BJ.out).addr (by omega)
                cases e'
                have c0 := (hc j t ht).c0
                simp only [Nat.zero_add] at c0
                have hjl' : (j : Int) < (k : Int) := by omega
                have htn := htok.nm
                have GT := hide (name_any a5 l5 k5 T t.nm _ (RT.out.below BJ.out) (by omega))
                have HT := hide ht
                have HNk := hide (HNat.out j t ht)
                clear hc htok ht
                rcases hg : gtO T t.nm with _ | y
                · have hno : ¬ prsOk bs (O : Int) (k : Int) (p : Int) := fun h => by
                    have h1 := PR2.out.1 (PR.out.1 h).2 j t HT.out
                    rw [hg] at h1
                    cases h1
                  have HNO := hide hno
                  rw [hg, gtR_none] at GT
                  have BX := hide (BF5.out.trans (BJ.out.mono z5))
                  clear hno hg HNk OJ HPJ HNat RL5 RT
                  go_wp2_with (go_at_call 27; refine GT.out.mono ?_; rintro e w' ⟨rfl, hw'⟩; rw [hw']; clear hw' w')
                  go_ret3
                  exact ⟨.inr ⟨HNO.out, rfl⟩, BX.out⟩
                · rw [hg, gtR_some] at GT
                  rw [hg] at HNk
                  have HP2 : Hid (∀ (i : Nat) (t : Sh), i < j + 1 → L[i]? = some t → (gtO T t.nm).isSome = true) := fun i u hi hu => by
                    rcases (show i < j ∨ i = j by omega) with h5 | h5
                    · exact HPJ.out i u h5 hu
                    · subst h5
                      have e := HT.out.symm.trans hu
                      cases e
                      rw [hg]
                      rfl
                  have eN : csT (NN.take (j + 1)) = csT (NN.take j) ++ [.string (str y)] := by
                    have h6 : NN[j]? = some y := HNk.out
                    rw [List.take_add_one, h6]
                    simp [csT]
                  have HEN := hide eN
                  clear hg HPJ eN HNk
                  generalize str y = Y at *
                  go_upto_region 27 with (go_at_call 27; refine GT.out.mono ?_; rintro e w' ⟨rfl, hw'⟩; rw [hw']; clear hw' w')
                  go_wp2_with (at_builtin; refine wpList_append_lies _ rfl _ _ 32 rfl W5.heap.size 9 iS (.string ⟨#[]⟩) 1 16 Try.underlying32 hiS hzS0 hzS1 hzS2 rfl (by decide) u15 j (csT (NN.take j)) rfl (OJ.out.alloc _) ⟨wr.heap.size, 0, none⟩ 1 1 [.string Y] rfl rfl (World.news_of_block (cs := #[.string Y]) (t := 9) (fr := (0, 0)) (heap_alloc_new wr _)) (by simp [Value.oneCell']) (by omega) (by unfold maxLen; omega) (by omega) (by simp; omega) _ rfl ?_)
                  intro g9 c9 W9 hown hgrow hat hlt9
                  have N9 : Hid (W9.ownsRow W5.heap.size 9 1 (.slice (some ⟨g9, 0, none⟩) (j + 1) c9) (j + 1) (csT (NN.take (j + 1)))) := by rw [HEN.out]; rw [← List.map_take] at hown; exact hown
                  have B9 := hide ((BJ.out.alloc zj _).grown hgrow (by simp; omega) (fun i hi => (OJ.out.lt i hi).1))
                  clear hown hgrow hat hlt9 OJ BJ HEN GT c0
                  go_wp2
                  go_roundg (k - (j + 1))
                  case measure => omega
                  case rel => exact ⟨j + 1, by omega, rfl, by go_num, N9, B9, HP2⟩
              · obtain rfl : j = k := by omega
                have hyes : prsOk bs (O : Int) (j : Int) (p : Int) := PR.out.2 ⟨HP0.out, PR2.out.2 (fun i t ht => HPJ.out i t (by have := (List.getElem?_eq_some_iff.1 ht).1; omega) ht)⟩
                have hrow := OJ.out
                rw [List.take_of_length_le (by omega)] at hrow
                obtain ⟨a9, c9, h9, r9⟩ := Rs.own hrow
                subst h9
                rw [← LN2.out] at r9
                have R9 := hide r9
                have HY := hide hyes
                have RL9 := hide (RL5.out.below BJ.out)
                have BX := hide (BF5.out.trans (BJ.out.mono z5))
                clear hrow OJ BJ HPJ HNat RT r9 hyes RL5
                go_wp2
                go_ret3
                refine ⟨.inl ⟨HY.out, _, _, _, _, rfl, ?_, ?_⟩, BX.out⟩
                · rw [Int.toNat_natCast, Int.toNat_natCast, HL.out]; exact RL9.out
                · rw [Int.toNat_natCast, Int.toNat_natCast, HL.out]; exact R9.out
          · have h3' : ((s.ty : Int) != 3) = true := by simp; omega
            have hno : ¬ prsOk bs (O : Int) (k : Int) (p : Int) := fun h => h3 (by rw [← hts]; exact (PR.out.1 h).2.2.2.1)
            have HNO := hide hno
            clear hno hts hs h3 hsok X9 RL RB HP HL HLa HLok PR X0 R0 B0 HBY
            go_wp2
            go_ret3
            exact ⟨.inr ⟨HNO.out, rfl⟩, BF.out⟩
        · have hno : ¬ prsOk bs (O : Int) (k : Int) x := fun h => X9.out hx1 (PR.out.1 h).2
          have HNO := hide hno
          clear hno X9 r9 RL RB HP HL HLa HLok PR X0 R0 B0 HBY
          by_cases hx2 : x < 1
          · clear hx1
            go_wp2
            go_ret3
            exact ⟨.inr ⟨HNO.out, rfl⟩, BF.out⟩
          · have hx3 : (k : Int) ≤ x := by omega
            clear hx1
            go_wp2
            go_ret3
            exact ⟨.inr ⟨HNO.out, rfl⟩, BF.out⟩
  · have ew : withinOf o ((N : Int) * 64) (len : Int) = false := by unfold withinOf; exact decide_eq_false (by omega)
    rw [ew] at WI
    have hno : ¬ prsOk bs o (N : Int) x := fun h => hw (by have := h.2.1; omega)
    have HNO := hide hno
    clear hno hw ew r b0
    obtain ⟨q0, q1, q2, _, _, _⟩ := X0.out.at
    go_enter Try.func11, Try.ntmps11
    go_wp2_with (go_at_call 23; refine (WI.out _).mono ?_; rintro e w' ⟨rfl, hw'⟩; rw [hw']; clear hw' w')
    go_ret3
    exact ⟨.inr ⟨HNO.out, rfl⟩, B0.out⟩

end Go.Proofs.Ytmmbahblnmhhmaa
