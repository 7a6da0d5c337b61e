/- The contract of rela.Parse: the relocations just where the rules hold. -/
import Derived.Test.YtkmmffpipopjcaaRelaOne
namespace Go.Proofs.Ytkmmffpipopjcaa
open Go.RowKit
set_option linter.unusedVariables false
set_option linter.unusedSimpArgs false

/-- What is told of a table of relocations. -/
def ReR (bs : List Int) (size : Nat) (syms : Int) (e : Ending) (w : World) : Prop :=
  (relOk bs size syms ∧ ∃ a c, e = .returned (.tuple #[.slice a (bs.length / 24) c, .int .i64 0]) ∧ Rl w a (bs.length / 24) c (rlsL bs (bs.length / 24))) ∨
  (¬ relOk bs size syms ∧ e = .returned (.tuple #[.slice none 0 0, .int .i64 33]))

theorem Try.infoRe : (Try.prog.info? 40).map (fun i => (i.zero, i.size, i.bytes)) = some (some (.agg #[.int .u64 0, .int .u32 0, .int .u32 0, .int .i64 0]), 4, 24) := by kernel_rfl

abbrev ReF (w wr : World) (B g n : Nat) (L : List Re) (k : Nat) : Prop := reC.Fil 40 re0 w wr B g n L k
theorem ReF.at {w wr : World} {B g n : Nat} {L : List Re} {k j : Nat} (p : ReF w wr B g n L k) (s : Re) (hs : (filK re0 L k)[j]? = some s) (hj : j < n) : ReC wr g (j * 4) s :=
  ReC.of (fun i hi => Rc.Fil.at p s hs hj i hi)

set_option maxHeartbeats 3200000 in
set_option maxRecDepth 20000 in
theorem relparse_any (a : Option Addr) (len cap : Nat) (bs : List Int) (size : Nat) (syms : Int) (w : World) (r : Rd w a len cap bs) (hz : size < 18446744073709551616) (y0 : -9223372036854775808 ≤ syms) (y1 : syms ≤ 9223372036854775807) :
    Calls Try.prog 10 #[.slice a len cap, .int .u64 (size : Int), .int .i64 syms] w fun e w' => ReR bs size syms e w' ∧ Below w.heap.size w w' := by
  have hl := r.length
  have hle := r.le
  have hmx := r.max
  obtain ⟨iY, hiY, hzY0, hzY1, hzY2⟩ := info_parts Try.infoRe
  have d1 : (len : Int).tdiv 24 = (len : Int) / 24 := Int.tdiv_eq_ediv_of_nonneg (by omega)
  have d2 : (len : Int).tmod 24 = (len : Int) % 24 := Int.tmod_eq_emod_of_nonneg (by omega)
  obtain ⟨n, hn⟩ : ∃ n, len / 24 = n := ⟨_, rfl⟩
  have hn' : (len : Int) / 24 = (n : Int) := by omega
  have hn2 : bs.length / 24 = n := by rw [hl]; exact hn
  by_cases hm : len % 24 = 0
  · have m0 : ((len : Int) % 24 != 0) = false := by simp; omega
    by_cases hx : n ≤ 2000
    · have hx' : ¬ ((2000 : Int) < (n : Int)) := by omega
      obtain ⟨L, hL⟩ : ∃ L, rlsL bs n = L := ⟨_, rfl⟩
      have hLl : L.length = n := by rw [← hL]; exact rlsL_len _ _
      have hLa : ∀ i, i < n → L[i]? = some (reAt bs (24 * i)) := fun i hi => by rw [← hL]; exact rlsL_at _ _ _ hi
      have hLok : ∀ s ∈ L, s.Ok := by rw [← hL]; exact rlsL_ok r.bytes _
      have PR : Hid (relOk bs size syms ↔ ∀ i, i < n → reB (reAt bs (24 * i)) size syms = true) := by
        show relOk bs size syms ↔ _
        unfold relOk
        rw [hn2, hl]
        exact ⟨fun h => h.2.2, fun h => ⟨hm, hx, h⟩⟩
      have HL := hide hL
      have HLa := hide hLa
      have HLok := hide hLok
      have HN2 := hide hn2
      have R0 := hide r
      have hl24 : 24 * n = len := by omega
      clear hL hLa hLok hn2 r hn hm
      go_enter Try.func10, Try.ntmps10
      go_upto_region 4 with fail
      go_upto_region 5 with (at_make; refine wpList_make_full _ rfl _ _ 22 rfl w.heap.size 40 iY (.agg #[.int .u64 0, .int .u32 0, .int .u32 0, .int .i64 0]) 4 Try.underlying22 hiY hzY0 hzY1 .i64 .i64 (n : Int) (n : Int) n rfl rfl rfl rfl (by rw [hzY2]; omega) (by unfold maxLen; omega) (Nat.le_refl _) ?_)
      intro W1 hown1 hgrow1
      have S0 : Hid (ReF w W1 w.heap.size w.heap.size n L 0) := by
        refine ⟨?_, (Below.refl _ _).grown hgrow1 (Nat.le_refl w.heap.size) (fun k hk => by cases hk), Nat.le_refl _⟩
        rw [filK_zero, hLl, ← Rc.made reC (.agg #[.int .u64 0, .int .u32 0, .int .u32 0, .int .i64 0]) re0 rfl]
        exact hown1
      clear hown1 hgrow1
      go_wp2
      go_loopg [26] n (fun gg i wr => ∃ k : Nat, k ≤ n ∧ gg = n - k ∧ i = .int .i64 (k : Int) ∧ Hid (ReF w wr w.heap.size w.heap.size n L k) ∧ Hid (∀ i, i < k → reB (reAt bs (24 * i)) size syms = true))
      case atStart => exact ⟨0, by omega, rfl, rfl, S0, fun i hi => by omega⟩
      case round =>
        obtain ⟨k, hk, rfl, rfl, S, HP⟩ := hrel
        clear S0
        have hbW := S.out.bel
        have zr := hbW.size
        by_cases hlt : k < n
        · have hlt' : (k : Int) < (n : Int) := by omega
          obtain ⟨p, hp⟩ : ∃ p, 24 * k = p := ⟨_, rfl⟩
          obtain ⟨t, ht⟩ : ∃ t, reAt bs p = t := ⟨_, rfl⟩
          have htk : L[k]? = some t := by rw [← ht, ← hp]; exact HLa.out k hlt
          have htok := HLok.out t (List.mem_of_getElem? htk)
          have hk2 : IntKind.u64.wrap ((k : Int) * 24) = (k : Int) * 24 := u64_wrap_id _ (by omega) (by omega)
          have e1 : (k : Int) * 24 = (p : Int) := by omega
          have hp1 : p + 24 ≤ len := by omega
          have SR := hide (rread_any a len cap bs p wr (R0.out.below hbW) hp1)
          rw [ht] at SR
          unfold reV at SR
          have HTK := hide htk
          have RI := hide (fun W => rright_any t size syms W htok hz y0 y1)
          unfold reV at RI
          have HRT : Hid (reB (reAt bs (24 * k)) size syms = reB t size syms) := by rw [hp, ht]; exact rfl
          clear ht htk htok hp hbW
          go_upto_region 9 with (go_at_call 19; refine SR.out.mono ?_; rintro e W3 ⟨rfl, b3⟩; have S3 := hide (S.out.below (Nat.le_refl _) b3); have B3 := hide b3; obtain ⟨s', hs'⟩ : ∃ s', (filK re0 L k)[k]? = some s' := ⟨_, List.getElem?_eq_getElem (by rw [filK_len _ _ _ (by omega)]; omega)⟩; obtain ⟨d0, d1, d2, d3⟩ := ReF.at S3.out s' hs' hlt; have f := S3.out.row.frozenAt; have f0 := f (k * 4); have f1 := f (k * 4 + 1); have f2 := f (k * 4 + 2); have f3 := f (k * 4 + 3); clear f b3 hs' S SR)
          have S4 := hide (Rc.Fil.set S3.out (by omega) t HTK.out)
          show Code.wp _ _ _ _ (W3.setCells w.heap.size (k * 4) t.cells)
          change Hid (reC.Fil _ _ _ (W3.setCells w.heap.size (k * 4) t.cells) _ _ _ _ _) at S4
          obtain ⟨V, hV⟩ : ∃ V, W3.setCells w.heap.size (k * 4) t.cells = V := ⟨_, rfl⟩
          rw [hV] at S4 ⊢
          clear d0 d1 d2 d3 f0 f1 f2 f3 S3 hV B3
          obtain ⟨d0, d1, d2, d3⟩ := ReF.at S4.out t (filK_at re0 L k (by omega) t HTK.out) hlt
          have z4 := S4.out.bel.size
          have G := hide (RI.out V)
          rcases hr : reB t size syms with _ | _
          · have hno : ¬ relOk bs size syms := fun h => by
              have h1 := PR.out.1 h k hlt
              rw [HRT.out, hr] at h1
              cases h1
            have HNO := hide hno
            have BF := hide S4.out.bel
            rw [hr] at G
            clear hno hr HP S4 RI HRT HTK
            go_wp2_with (go_at_call 20; refine G.out.mono ?_; rintro e W6 ⟨rfl, b6⟩; have B6 := hide (BF.out.trans (b6.mono (by omega))); clear b6)
            go_ret2
            exact ⟨.inr ⟨HNO.out, rfl⟩, B6.out⟩
          · have HP2 : Hid (∀ i, i < k + 1 → reB (reAt bs (24 * i)) size syms = true) := fun i hi => by
              rcases (show i < k ∨ i = k by omega) with h5 | h5
              · exact HP.out i h5
              · subst h5
                rw [HRT.out, hr]
            rw [hr] at G
            clear hr HP RI HRT HTK
            go_wp2_with (go_at_call 20; refine G.out.mono ?_; rintro e W6 ⟨rfl, b6⟩; have S6 := hide (S4.out.below (Nat.le_refl _) b6); clear b6 S4 d0 d1 d2 d3)
            go_roundg (n - (k + 1))
            case measure => omega
            case rel => exact ⟨k + 1, by omega, rfl, by go_num, S6, HP2⟩
        · obtain rfl : k = n := by omega
          have hrow := S.out.row
          rw [← hLl, filK_all, hLl] at hrow
          obtain ⟨a9, c9, h9, r9⟩ := Rr.own hrow HLok.out
          cases h9
          have R9 := hide r9
          have HY := hide (PR.out.2 HP.out)
          have BF := hide hbW
          clear hrow r9 S hbW HP
          go_wp2
          go_ret2
          refine ⟨.inl ⟨HY.out, ?_⟩, BF.out⟩
          rw [HN2.out, HL.out]
          exact ⟨_, _, rfl, R9.out⟩
    · have hno : ¬ relOk bs size syms := fun h => hx (by have := h.2.1; rw [hn2] at this; exact this)
      have HNO := hide hno
      have hx' : (2000 : Int) < (n : Int) := by omega
      clear hno r
      go_enter Try.func10, Try.ntmps10
      go_wp2
      go_ret2
      exact ⟨.inr ⟨HNO.out, rfl⟩, Below.refl _ _⟩
  · have hno : ¬ relOk bs size syms := fun h => hm (by have := h.1; rw [hl] at this; exact this)
    have HNO := hide hno
    have m0 : ((len : Int) % 24 != 0) = true := by simp; omega
    clear hno r
    go_enter Try.func10, Try.ntmps10
    go_wp2
    go_ret2
    exact ⟨.inr ⟨HNO.out, rfl⟩, Below.refl _ _⟩

end Go.Proofs.Ytkmmffpipopjcaa
