/- The contract of the document's Relas: the relocations just where the rules hold. -/
import Derived.Test.YtkmmffpipopjcaaRelaParse
import Derived.Test.YtkmmffpipopjcaaNum9
import Derived.Deep.LoopGhost
import Derived.Deep.AppendLies
namespace Go.Proofs.Ytkmmffpipopjcaa
open Go.RowKit
set_option linter.unusedVariables false
set_option linter.unusedSimpArgs false

structure RqR (w wr : World) (v : Value) (L : List Re) (k : Nat) : Prop where
  row : wr.ownsRow w.heap.size 40 4 v k (reC.all (L.take k))
  bel : Below w.heap.size w wr
theorem RqR.below {w wr W : World} {v : Value} {L : List Re} {k : Nat} (h : RqR w wr v L k) (hw : Below wr.heap.size wr W) : RqR w W v L k :=
  ⟨ownsRow_kept0 h.row hw, h.bel.trans (hw.mono h.bel.size)⟩
theorem RqR.push {w V W9 : World} {v v' : Value} {L : List Re} {k : Nat} {t : Re} {o : Obj} (h : RqR w V v L k) (ht : L[k]? = some t) (hown : W9.ownsRow w.heap.size 40 4 v' (k + 1) (reC.all (L.take k) ++ t.cells)) (hgrow : (V.alloc o).grownBy W9 v.ownBlock) : RqR w W9 v' L (k + 1) := by
  have z := h.bel.size
  refine ⟨?_, (h.bel.alloc z o).grown hgrow (by simp; omega) (fun j hj => (h.row.lt j hj).1)⟩
  rw [Rc.all_take reC L k t ht]
  exact hown

set_option maxHeartbeats 6400000 in
set_option maxRecDepth 20000 in
theorem rrelas_any (a : Option Addr) (len cap : Nat) (bs : List Int) (size : Nat) (syms : Int) (w : World) (r : Rd w a len cap bs) (hz : size < 18446744073709551616) (y0 : -9223372036854775808 ≤ syms) (y1 : syms ≤ 9223372036854775807) :
    Calls Try.prog 11 #[.slice a len cap, .int .u64 (size : Int), .int .i64 syms] w fun e w' => ReR bs size syms e w' ∧ Below w.heap.size w w' := by
  have hl := r.length
  have hle := r.le
  have hmx := r.max
  obtain ⟨iY, hiY, hzY0, hzY1, hzY2⟩ := info_parts Try.infoRe
  have d1 : (len : Int).tdiv 24 = (len : Int) / 24 := Int.tdiv_eq_ediv_of_nonneg (by omega)
  have d2 : (len : Int).tmod 24 = (len : Int) % 24 := Int.tmod_eq_emod_of_nonneg (by omega)
  obtain ⟨n, hn⟩ : ∃ n, len / 24 = n := ⟨_, rfl⟩
  have hn' : (len : Int) / 24 = (n : Int) := by omega
  have hn2 : bs.length / 24 = n := by rw [hl]; exact hn
  by_cases hm : len % 24 = 0
  · have m0 : ((len : Int) % 24 != 0) = false := by simp; omega
    by_cases hx : n ≤ 2000
    · have hx' : ¬ ((2000 : Int) < (n : Int)) := by omega
      obtain ⟨L, hL⟩ : ∃ L, rlsL bs n = L := ⟨_, rfl⟩
      have hLl : L.length = n := by rw [← hL]; exact rlsL_len _ _
      have hLa : ∀ i, i < n → L[i]? = some (reAt bs (24 * i)) := fun i hi => by rw [← hL]; exact rlsL_at _ _ _ hi
      have hLok : ∀ s ∈ L, s.Ok := by rw [← hL]; exact rlsL_ok r.bytes _
      have PR : Hid (relOk bs size syms ↔ ∀ i, i < n → reB (reAt bs (24 * i)) size syms = true) := by
        show relOk bs size syms ↔ _
        unfold relOk
        rw [hn2, hl]
        exact ⟨fun h => h.2.2, fun h => ⟨hm, hx, h⟩⟩
      have HBY := hide r.bytes
      have HL := hide hL
      have HLa := hide hLa
      have HLok := hide hLok
      have HN2 := hide hn2
      have R0 := hide r
      have hl24 : 24 * n = len := by omega
      have S0 : Hid (RqR w w (.slice none 0 0) L 0) := ⟨World.ownsRow_nil _ _ _ _, Below.refl _ _⟩
      clear hL hLa hLok hn2 r hn hm
      go_enter Try.func11, Try.ntmps11
      go_wp2
      clear d1 d2 m0 hn'
      go_loopg [9, 10] n (fun gg v i wr => ∃ k : Nat, k ≤ n ∧ gg = n - k ∧ i = .int .i64 (k : Int) ∧ Hid (RqR w wr v L k) ∧ Hid (∀ i, i < k → reB (reAt bs (24 * i)) size syms = true))
      case atStart => exact ⟨0, by omega, rfl, rfl, S0, fun i hi => by omega⟩
      case round =>
        obtain ⟨k, hk, rfl, rfl, S, HP⟩ := hrel
        clear S0
        have hbW := S.out.bel
        have zr := hbW.size
        by_cases hlt : k < n
        · have hlt' : (k : Int) < (n : Int) := by omega
          obtain ⟨p, hp⟩ : ∃ p, 24 * k = p := ⟨_, rfl⟩
          obtain ⟨t, ht⟩ : ∃ t, reAt bs p = t := ⟨_, rfl⟩
          have htk : L[k]? = some t := by rw [← ht, ← hp]; exact HLa.out k hlt
          have htok := HLok.out t (List.mem_of_getElem? htk)
          have e1 : 24 * (k : Int) = (p : Int) := by omega
          have hp1 : p + 24 ≤ len := by omega
          have e2 : IntKind.u64.wrap (p : Int) = (p : Int) := u64_wrap_id _ (by omega) (by omega)
          obtain ⟨A0, A1, A2, A3⟩ := reAt_got HBY.out p
          rw [ht] at A0 A1 A2 A3
          obtain ⟨g3, hg3⟩ : ∃ g, got bs ((p : Int) + 16) 8 = g := ⟨_, rfl⟩
          have g30 : 0 ≤ g3 ∧ g3 < 18446744073709551616 := by
            rw [← hg3]
            have h1 := got_nonneg HBY.out ((p : Int) + 16) 8
            have h2 := got_lt HBY.out ((p : Int) + 16) 8
            rw [show (2 : Int) ^ (8 * 8) = 18446744073709551616 by decide] at h2
            exact ⟨h1, h2⟩
          have RW := R0.out.below hbW
          have N0 := hide (num9_any a len cap bs (p : Int) 8 wr RW (by omega) (by omega) (by omega) (by omega))
          have N1 := hide (num9_any a len cap bs ((p : Int) + 8) 4 wr RW (by omega) (by omega) (by omega) (by omega))
          have N2 := hide (num9_any a len cap bs ((p : Int) + 12) 4 wr RW (by omega) (by omega) (by omega) (by omega))
          have N3 := hide (num9_any a len cap bs ((p : Int) + 16) 8 wr RW (by omega) (by omega) (by omega) (by omega))
          rw [A0] at N0
          rw [A1] at N1
          rw [A2] at N2
          rw [hg3] at N3 A3
          have v0 := htok.off
          have v1 := htok.ty
          have v2 := htok.sy
          have w1 : IntKind.u32.wrap (t.ty : Int) = (t.ty : Int) := u32_wrap_id _ (by omega) (by omega)
          have w2 : IntKind.u32.wrap (t.sy : Int) = (t.sy : Int) := u32_wrap_id _ (by omega) (by omega)
          have w3 : IntKind.i64.wrap g3 = t.ad := by rw [adS_wrap]; exact A3
          have HTK := hide htk
          have HRT : Hid (reB (reAt bs (24 * k)) size syms = reB t size syms) := by rw [hp, ht]; exact rfl
          have hW := reW_le t.ty
          obtain ⟨q, hq⟩ : ∃ q : Nat, reW t.ty = q := ⟨_, rfl⟩
          have WI := hide (fun W => dwidth_any t.ty W v1)
          rw [hq] at WI hW
          have WT := hide (fun W => rwithin_any (t.off : Int) (q : Int) (size : Int) W (by omega) (by omega) (by omega) (by omega) (by omega) (by omega))
          have hE : reB t size syms = (!(decide (syms ≤ (t.sy : Int))) && withinOf (t.off : Int) (q : Int) (size : Int)) := by
            rw [reB_with, hq]
            congr 1
            rw [Bool.eq_iff_iff]
            simp
          obtain ⟨c, hc⟩ : ∃ c, withinOf (t.off : Int) (q : Int) (size : Int) = c := ⟨_, rfl⟩
          obtain ⟨b, hb⟩ : ∃ b, decide (syms ≤ (t.sy : Int)) = b := ⟨_, rfl⟩
          rw [hc] at WT
          rw [hb, hc] at hE
          have i0 : IntKind.i64.wrap (t.sy : Int) = (t.sy : Int) := by rw [IntKind.wrap_i64]; omega
          have i1 : IntKind.u64.wrap (q : Int) = (q : Int) := u64_wrap_id _ (by omega) (by omega)
          have HE := hide hE
          have HG := hide g30
          have g31 := g30.1
          have g32 := g30.2
          clear ht htk htok hp hbW RW A0 A1 A2 A3 hg3 hq hc hE g30
          go_upto_region 9 with fail
          go_wp2_with fail
          refine N0.out.mono ?_
          rintro e w' ⟨rfl, hw'⟩
          rw [hw']
          clear hw' w' N0
          go_wp2_with fail
          refine N1.out.mono ?_
          rintro e w' ⟨rfl, hw'⟩
          rw [hw']
          clear hw' w' N1
          go_wp2_with fail
          refine N2.out.mono ?_
          rintro e w' ⟨rfl, hw'⟩
          rw [hw']
          clear hw' w' N2
          go_wp2_with fail
          refine N3.out.mono ?_
          rintro e w' ⟨rfl, hw'⟩
          rw [hw']
          clear hw' w' N3
          go_upto_region 10 with fail
          have S1 := hide (S.out.below ((Below.refl wr.heap.size wr).alloc (Nat.le_refl _) (.cells t.cells.toArray 40)))
          obtain ⟨d0, d1, d2, d3⟩ := ReB.at (Rc.Blk.new wr t)
          simp only [Nat.zero_add] at d0 d1 d2 d3
          obtain ⟨V, hV⟩ : ∃ V, wr.alloc (.cells #[.int .u64 (t.off : Int), .int .u32 (t.ty : Int), .int .u32 (t.sy : Int), .int .i64 t.ad] 40) = V := ⟨_, rfl⟩
          change Hid (RqR _ (wr.alloc (.cells #[.int .u64 (t.off : Int), .int .u32 (t.ty : Int), .int .u32 (t.sy : Int), .int .i64 t.ad] 40)) _ _ _) at S1
          change (wr.alloc (.cells #[.int .u64 (t.off : Int), .int .u32 (t.ty : Int), .int .u32 (t.sy : Int), .int .i64 t.ad] 40)).cell? _ = _ at d0 d1 d2 d3
          rw [hV] at S1 d0 d1 d2 d3 ⊢
          obtain ⟨X, hX⟩ : ∃ X, wr.heap.size = X := ⟨_, rfl⟩
          rw [hX] at d0 d1 d2 d3 ⊢
          have zV := S1.out.bel.size
          clear hV hX S
          cases b
          · cases c
            · have HNO : Hid (¬ relOk bs size syms) := fun h => by
                have h1 := PR.out.1 h k hlt
                rw [HRT.out, HE.out] at h1
                cases h1
              go_quiet (first
                | (go_at_call 16; refine Calls.quiet_of_same (WI.out _))
                | (go_at_call 22; refine Calls.quiet_of_same (WT.out _)))
              have BF := hide (S1.out.bel.trans ((bel_drewS V nq).mono zV))
              clear S1 d0 d1 d2 d3
              go_wp2
              go_ret2
              exact ⟨.inr ⟨HNO.out, rfl⟩, BF.out⟩
            · have HP2 : Hid (∀ i, i < k + 1 → reB (reAt bs (24 * i)) size syms = true) := fun i hi => by
                rcases (show i < k ∨ i = k by omega) with h5 | h5
                · exact HP.out i h5
                · subst h5
                  rw [HRT.out, HE.out]
                  rfl
              go_quiet (first
                | (go_at_call 16; refine Calls.quiet_of_same (WI.out _))
                | (go_at_call 22; refine Calls.quiet_of_same (WT.out _)))
              have S2 := hide (S1.out.below (bel_drewS V nq))
              obtain ⟨U, hU⟩ : ∃ U, V.drewN nq = U := ⟨_, rfl⟩
              change (V.drewN nq).cell? _ = _ at d0 d1 d2 d3
              rw [hU] at S2 d0 d1 d2 d3 ⊢
              clear hU S1 HP HRT HE WI WT zV
              have z2 := S2.out.bel.size
              obtain ⟨xs, hxs⟩ : ∃ xs, reC.all (L.take k) = xs := ⟨_, rfl⟩
              have ow := S2.out.row
              rw [hxs] at ow
              have OW := hide ow
              have HXS := hide hxs
              clear ow hxs
              go_upto_region 7 with (at_builtin; refine wpList_append_own _ rfl _ _ 22 rfl w.heap.size 40 iY (.agg #[.int .u64 0, .int .u32 0, .int .u32 0, .int .i64 0]) 4 24 Try.underlying22 hiY hzY0 hzY1 hzY2 rfl (by decide) _ _ _ rfl (OW.out.alloc _) ⟨U.heap.size, 0, none⟩ 1 1 [.int .u64 (t.off : Int), .int .u32 (t.ty : Int), .int .u32 (t.sy : Int), .int .i64 t.ad] rfl rfl (World.news_of_block (cs := #[.int .u64 (t.off : Int), .int .u32 (t.ty : Int), .int .u32 (t.sy : Int), .int .i64 t.ad]) (t := 40) (fr := (0, 0)) (heap_alloc_new U _)) (by simp [Value.oneCell']) (by unfold maxLen; omega) (by omega) (by simp; omega) ?_)
              intro v9 W9 hown9 hgrow9 _
              rw [← HXS.out] at hown9
              have S9 := hide (S2.out.push HTK.out hown9 hgrow9)
              clear hown9 hgrow9 S2 HXS OW d0 d1 d2 d3 HTK
              go_wp2
              go_roundg (n - (k + 1))
              case measure => omega
              case rel => exact ⟨k + 1, by omega, rfl, by go_num, S9, HP2⟩
          · have HNO : Hid (¬ relOk bs size syms) := fun h => by
              have h1 := PR.out.1 h k hlt
              rw [HRT.out, HE.out] at h1
              cases h1
            go_quiet (fail)
            have BF := hide (S1.out.bel.trans ((bel_drewS V nq).mono zV))
            clear S1 d0 d1 d2 d3
            go_wp2
            go_ret2
            exact ⟨.inr ⟨HNO.out, rfl⟩, BF.out⟩
        · obtain rfl : k = n := by omega
          have hrow := S.out.row
          rw [List.take_of_length_le (by omega)] at hrow
          obtain ⟨a9, c9, h9, r9⟩ := Rr.own (C := reC) hrow HLok.out
          subst h9
          have R9 := hide r9
          have HY := hide (PR.out.2 HP.out)
          have BF := hide hbW
          clear hrow r9 S hbW HP
          go_wp2
          go_ret2
          refine ⟨.inl ⟨HY.out, ?_⟩, BF.out⟩
          rw [HN2.out, HL.out]
          exact ⟨_, _, rfl, R9.out⟩
    · have hno : ¬ relOk bs size syms := fun h => hx (by have := h.2.1; rw [hn2] at this; exact this)
      have HNO := hide hno
      have hx' : (2000 : Int) < (n : Int) := by omega
      clear hno r
      go_enter Try.func11, Try.ntmps11
      go_wp2
      go_ret2
      exact ⟨.inr ⟨HNO.out, rfl⟩, Below.refl _ _⟩
  · have hno : ¬ relOk bs size syms := fun h => hm (by have := h.1; rw [hl] at this; exact this)
    have HNO := hide hno
    have m0 : ((len : Int) % 24 != 0) = true := by simp; omega
    clear hno r
    go_enter Try.func11, Try.ntmps11
    go_wp2
    go_ret2
    exact ⟨.inr ⟨HNO.out, rfl⟩, Below.refl _ _⟩

end Go.Proofs.Ytkmmffpipopjcaa
