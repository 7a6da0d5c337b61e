/- The contract of symtab.Parse: the symbols and their names just where the rules hold. -/
import Derived.Test.YtonhahijblnfhaaSymOne
import Derived.Test.YtonhahijblnfhaaTxtRow
import Derived.Lib.OwnKind
namespace Go.Proofs.Ytonhahijblnfhaa
open Go.RowKit
set_option linter.unusedVariables false
set_option linter.unusedSimpArgs false

/-- What is told of a table of symbols. -/
def SyR (bs nb : List Int) (loc : Nat) (e : Ending) (w : World) : Prop :=
  (symOk bs nb loc ∧ ∃ a c a2 c2, e = .returned (.tuple #[.slice a (bs.length / 24) c, .slice a2 (bs.length / 24) c2, .int .i64 0]) ∧ Ry w a (bs.length / 24) c (symsL bs (bs.length / 24)) ∧ Rs w a2 (bs.length / 24) c2 (synL bs nb (bs.length / 24))) ∨
  (¬ symOk bs nb loc ∧ e = .returned (.tuple #[.slice none 0 0, .slice none 0 0, .int .i64 32]))
theorem symsL_ok {bs : List Int} (hb : Bytes bs) (n : Nat) : ∀ s ∈ symsL bs n, s.Ok := by
  intro s hs
  obtain ⟨i, _, rfl⟩ := List.mem_map.1 hs
  exact (syAt_ok hb _).1
theorem synL_at (bs nb : List Int) (n i : Nat) (h : i < n) (y : List UInt8) (hy : synO nb (syAt bs (24 * i)) i = some y) : (synL bs nb n)[i]? = some y := by
  unfold synO at hy
  simp only [synL, List.getElem?_map, List.getElem?_range h, Option.map_some]
  by_cases h0 : i = 0
  · simp [h0] at hy ⊢
    exact hy
  · simp [h0] at hy ⊢
    rw [hy]
    rfl

theorem Try.infoSy : (Try.prog.info? 40).map (fun i => (i.zero, i.size, i.bytes)) = some (some (.agg #[.int .u32 0, .int .i64 0, .int .i64 0, .int .i64 0, .int .i64 0, .int .u64 0, .int .u64 0]), 7, 56) := by kernel_rfl

structure PaY (w wr : World) (B g h n : Nat) (L : List Sy) (N : List (List UInt8)) (k k2 : Nat) : Prop where
  row : wr.ownsRow B 40 7 (.slice (some ⟨g, 0, none⟩) n n) n (syC.all (filK sy0 L k))
  txt : wr.ownsRow B 9 1 (.slice (some ⟨h, 0, none⟩) n n) n (csT (nmK N k2))
  bel : Below B w wr
  gB : B ≤ g
  gh : g < h
theorem PaY.below {w wr W : World} {B g h n : Nat} {L : List Sy} {N : List (List UInt8)} {k k2 : Nat} (p : PaY w wr B g h n L N k k2) (hB : B ≤ w.heap.size) (hw : Below wr.heap.size wr W) : PaY w W B g h n L N k k2 := by
  have gg : wr.grownBy W none := ⟨hw.os, hw.tape, hw.output, hw.size, fun i hi _ => hw.block i hi⟩
  exact ⟨p.row.kept gg (.inr (by simp [Value.ownBlock])), p.txt.kept gg (.inr (by simp [Value.ownBlock])), p.bel.trans (hw.mono (Nat.le_trans hB p.bel.size)), p.gB, p.gh⟩
theorem grown_setCells (g : Nat) : ∀ (vs : List Value) (o : Nat) (w : World), w.grownBy (w.setCells g o vs) (some g)
  | [], o, w => ⟨rfl, rfl, rfl, Nat.le_refl _, fun _ _ _ => rfl⟩
  | v :: vs, o, w => by
    have h1 : w.grownBy (w.setCell ⟨g, o, none⟩ v) (some g) := by
      have hb : Below g w (w.setCell ⟨g, o, none⟩ v) := by
        refine (Below.refl g w).setCell ?_ v
        exact Nat.le_refl g
      refine ⟨hb.os, hb.tape, hb.output, hb.size, fun i hi hne => ?_⟩
      have hne' : i ≠ g := fun e => hne (by rw [e])
      unfold World.setCell
      simp [Array.getElem?_modify, Ne.symm hne']
    have h2 := grown_setCells g vs (o + 1) (w.setCell ⟨g, o, none⟩ v)
    exact ⟨h2.os.trans h1.os, h2.tape.trans h1.tape, h2.output.trans h1.output, Nat.le_trans h1.size h2.size, fun i hi hne => (h2.block i (Nat.lt_of_lt_of_le hi h1.size) hne).trans (h1.block i hi hne)⟩
theorem PaY.set {w wr : World} {B g h n : Nat} {L : List Sy} {N : List (List UInt8)} {k k2 : Nat} (p : PaY w wr B g h n L N k k2) (hk : k < L.length) (t : Sy) (ht : L[k]? = some t) : PaY w (stSy wr g (k * 7) t) B g h n L N (k + 1) k2 := by
  have h3 := p.gh
  refine ⟨?_, ?_, stSy_below t p.bel p.gB, p.gB, p.gh⟩
  · rw [← filK_set sy0 L k hk t ht]
    exact Rc.row_store syC p.row k (by rw [filK_len _ _ _ (by omega)]; exact hk) t
  · exact p.txt.kept (grown_setCells g t.cells (k * 7) wr) (.inr (by simp [Value.ownBlock]; omega))
theorem PaY.put {w wr : World} {B g h n : Nat} {L : List Sy} {N : List (List UInt8)} {k k2 : Nat} (p : PaY w wr B g h n L N k k2) (hk : k2 < N.length) (x : List UInt8) (hx : N[k2]? = some x) : PaY w (wr.setCell ⟨h, k2, none⟩ (.string (str x))) B g h n L N k (k2 + 1) := by
  have h1 := p.txt.stored k2 (.string (str x))
  have h3 := p.gh
  have h4 := p.gB
  refine ⟨?_, ?_, p.bel.setCell (by simp; omega) _, p.gB, p.gh⟩
  · exact p.row.kept h1.2 (.inr (by simp [Value.ownBlock]; omega))
  · rw [← nmK_set N k2 hk x hx]
    exact h1.1
theorem PaY.at {w wr : World} {B g h n : Nat} {L : List Sy} {N : List (List UInt8)} {k k2 j : Nat} (p : PaY w wr B g h n L N k k2) (s : Sy) (hs : (filK sy0 L k)[j]? = some s) (hj : j < n) : SyC wr g (j * 7) s :=
  SyC.of (fun i hi => (p.row.cellAt (j * 7 + i) (by omega)).trans (Rc.all_at syC _ _ _ _ hs hi))

set_option maxHeartbeats 3200000 in
set_option maxRecDepth 20000 in
theorem symparse_any (a : Option Addr) (len cap : Nat) (bs : List Int) (a2 : Option Addr) (len2 cap2 : Nat) (nb : List Int) (loc : Nat) (w : World) (r : Rd w a len cap bs) (r2 : Rd w a2 len2 cap2 nb) (hloc : loc ≤ 4294967295) :
    Calls Try.prog 10 #[.slice a len cap, .slice a2 len2 cap2, .int .u32 (loc : Int)] w fun e w' => SyR bs nb loc e w' ∧ Below w.heap.size w w' := by
  have hl := r.length
  have hle := r.le
  have hmx := r.max
  obtain ⟨iY, hiY, hzY0, hzY1, hzY2⟩ := info_parts Try.infoSy
  obtain ⟨iS, hiS, hzS0, hzS1, hzS2⟩ := info_parts Try.infoStr
  have d1 : (len : Int).tdiv 24 = (len : Int) / 24 := Int.tdiv_eq_ediv_of_nonneg (by omega)
  have d2 : (len : Int).tmod 24 = (len : Int) % 24 := Int.tmod_eq_emod_of_nonneg (by omega)
  obtain ⟨n, hn⟩ : ∃ n, len / 24 = n := ⟨_, rfl⟩
  have hn' : (len : Int) / 24 = (n : Int) := by omega
  have hn2 : bs.length / 24 = n := by rw [hl]; exact hn
  by_cases hm : len % 24 = 0
  · have m0 : ((len : Int) % 24 != 0) = false := by simp; omega
    by_cases hx : n ≤ 500
    · by_cases hq : 1 ≤ loc
      · by_cases hu : loc ≤ n
        · have hun : (loc : Int) ≤ (n : Int) := by omega
          have hq' : ¬ ((loc : Int) < 1) := by omega
          have hx' : ¬ ((500 : Int) < (n : Int)) := by omega
          obtain ⟨L, hL⟩ : ∃ L, symsL bs n = L := ⟨_, rfl⟩
          obtain ⟨N, hN⟩ : ∃ N, synL bs nb n = N := ⟨_, rfl⟩
          have hLl : L.length = n := by rw [← hL]; exact symsL_len _ _
          have hNl : N.length = n := by rw [← hN]; exact synL_len _ _ _
          have hLa : ∀ i, i < n → L[i]? = some (syAt bs (24 * i)) := fun i hi => by rw [← hL]; exact symsL_at _ _ _ hi
          have hNa : ∀ i, i < n → ∀ y, synO nb (syAt bs (24 * i)) i = some y → N[i]? = some y := fun i hi y hy => by rw [← hN]; exact synL_at _ _ _ _ hi y hy
          have hLok : ∀ s ∈ L, s.Ok := by rw [← hL]; exact symsL_ok r.bytes _
          have hbd : ∀ i, 0 ≤ (syAt bs (24 * i)).bd := fun i => (syAt_ok r.bytes _).2.1
          have PR : Hid (symOk bs nb loc ↔ ∀ i, i < n → syB nb (syAt bs (24 * i)) i loc = true) := by
            show symOk bs nb loc ↔ _
            unfold symOk
            rw [hn2, hl]
            exact ⟨fun h => h.2.2.2.2.2, fun h => ⟨hm, by omega, hx, hq, hu, h⟩⟩
          have HL := hide hL
          have HN := hide hN
          have HLa := hide hLa
          have HNa := hide hNa
          have HLok := hide hLok
          have HBD := hide hbd
          have HN2 := hide hn2
          have R0 := hide r
          have Q0 := hide r2
          have hl24 : 24 * n = len := by omega
          clear hL hN hLa hNa hLok hbd hn2 r r2 hn hm
          go_enter Try.func10, Try.ntmps10
          go_upto_region 4 with fail
          go_upto_region 5 with (at_make; refine wpList_make_full _ rfl _ _ 22 rfl w.heap.size 40 iY (.agg #[.int .u32 0, .int .i64 0, .int .i64 0, .int .i64 0, .int .i64 0, .int .u64 0, .int .u64 0]) 7 Try.underlying22 hiY hzY0 hzY1 .i64 .i64 (n : Int) (n : Int) n rfl rfl rfl rfl (by rw [hzY2]; omega) (by unfold maxLen; omega) (Nat.le_refl _) ?_)
          intro W1 hown1 hgrow1
          have b1 := (Below.refl _ _).grown hgrow1 (Nat.le_refl w.heap.size) (fun k hk => by cases hk)
          have z1 := hown1.lt _ rfl
          have z1' := b1.size
          have O1 : Hid (W1.ownsRow w.heap.size 40 7 (.slice (some ⟨w.heap.size, 0, none⟩) n n) n (syC.all (filK sy0 L 0))) := by
            rw [filK_zero, hLl, ← Rc.made syC (.agg #[.int .u32 0, .int .i64 0, .int .i64 0, .int .i64 0, .int .i64 0, .int .u64 0, .int .u64 0]) sy0 rfl]
            exact hown1
          have B1 := hide b1
          clear hown1 hgrow1 b1
          go_upto_region 6 with (at_make; refine wpList_make_full _ rfl _ _ 29 rfl W1.heap.size 9 iS (.string ⟨#[]⟩) 1 Try.underlying29 hiS hzS0 hzS1 .i64 .i64 (n : Int) (n : Int) n rfl rfl rfl rfl (by rw [hzS2]; omega) (by unfold maxLen; omega) (Nat.le_refl _) ?_)
          intro W2 hown2 hgrow2
          have S0 : Hid (PaY w W2 w.heap.size w.heap.size W1.heap.size n L N 0 0) := by
            refine ⟨O1.out.kept hgrow2 (.inr (by simp [Value.ownBlock])), ?_, B1.out.grown hgrow2 z1' (fun k hk => by cases hk), Nat.le_refl _, by omega⟩
            rw [nmK_zero, hNl]
            rw [toList_madeCells_one] at hown2
            exact ownsRow_mono hown2 (by omega)
          clear hown2 hgrow2 O1 B1
          obtain ⟨g, hg⟩ : ∃ g, W1.heap.size = g := ⟨_, rfl⟩
          rw [hg] at S0 ⊢
          clear hg z1 z1'
          go_wp2
          go_loopg [43] n (fun gg i wr => ∃ k : Nat, k ≤ n ∧ gg = n - k ∧ i = .int .i64 (k : Int) ∧ Hid (PaY w wr w.heap.size w.heap.size g n L N k k) ∧ Hid (∀ i, i < k → syB nb (syAt bs (24 * i)) i loc = true))
          case atStart => exact ⟨0, by omega, rfl, rfl, S0, fun i hi => by omega⟩
          case round =>
            obtain ⟨k, hk, rfl, rfl, S, HP⟩ := hrel
            clear S0
            have hbW := S.out.bel
            have zr := hbW.size
            by_cases hlt : k < n
            · have hlt' : (k : Int) < (n : Int) := by omega
              obtain ⟨p, hp⟩ : ∃ p, 24 * k = p := ⟨_, rfl⟩
              obtain ⟨t, ht⟩ : ∃ t, syAt bs p = t := ⟨_, rfl⟩
              have htk : L[k]? = some t := by rw [← ht, ← hp]; exact HLa.out k hlt
              have htok := HLok.out t (List.mem_of_getElem? htk)
              have hk2 : IntKind.u64.wrap ((k : Int) * 24) = (k : Int) * 24 := u64_wrap_id _ (by omega) (by omega)
              have e1 : (k : Int) * 24 = (p : Int) := by omega
              have hp1 : p + 24 ≤ len := by omega
              have SR := hide (read_any a len cap bs p wr (R0.out.below hbW) hp1)
              rw [ht] at SR
              unfold syV at SR
              have HTK := hide htk
              have HNK : Hid (∀ y, synO nb t k = some y → N[k]? = some y) := fun y hy => HNa.out k hlt y (by rw [hp, ht]; exact hy)
              have NA := hide (fun W (b : Below w.heap.size w W) => nameOf_any t k a2 len2 cap2 nb W htok (Q0.out.below b) (by omega))
              have RI := hide (fun y W => right_any t k loc y W htok (by omega) hloc)
              unfold syV at NA RI
              have HRT : Hid (syB nb (syAt bs (24 * k)) k loc = (match synO nb t k with | none => false | some y => rgB t k loc y)) := by
                have := rgB_eq nb t k loc (by have := HBD.out k; rw [hp, ht] at this; exact this)
                rw [hp, ht]
                exact this
              clear ht htk htok hp hbW
              go_upto_region 10 with (go_at_call 17; refine SR.out.mono ?_; rintro e W3 ⟨rfl, b3⟩; have S3 := hide (S.out.below (Nat.le_refl _) b3); have B3 := hide b3; obtain ⟨s', hs'⟩ : ∃ s', (filK sy0 L k)[k]? = some s' := ⟨_, List.getElem?_eq_getElem (by rw [filK_len _ _ _ (by omega)]; omega)⟩; obtain ⟨d0, d1, d2, d3, d4, d5, d6⟩ := S3.out.at s' hs' hlt; have f := S3.out.row.frozenAt; have f0 := f (k * 7); have f1 := f (k * 7 + 1); have f2 := f (k * 7 + 2); have f3 := f (k * 7 + 3); have f4 := f (k * 7 + 4); have f5 := f (k * 7 + 5); have f6 := f (k * 7 + 6); clear f b3 hs' S SR)
              have S4 := hide (S3.out.set (by omega) t HTK.out)
              show Code.wp _ _ _ _ (stSy W3 w.heap.size (k * 7) t)
              obtain ⟨V, hV⟩ : ∃ V, stSy W3 w.heap.size (k * 7) t = V := ⟨_, rfl⟩
              rw [hV] at S4 ⊢
              clear d0 d1 d2 d3 d4 d5 d6 f0 f1 f2 f3 f4 f5 f6 S3 hV B3
              obtain ⟨d0, d1, d2, d3, d4, d5, d6⟩ := S4.out.at t (filK_at sy0 L k (by omega) t HTK.out) hlt
              have z4 := S4.out.bel.size
              have NV := hide (NA.out V S4.out.bel)
              rcases ho : synO nb t k with _ | y
              · have hno : ¬ symOk bs nb loc := fun h => by
                  have h1 := PR.out.1 h k hlt
                  rw [HRT.out, ho] at h1
                  cases h1
                have HNO := hide hno
                have BF := hide S4.out.bel
                rw [ho, gtR_none] at NV
                clear hno ho HP S4 RI HRT HTK NA HNK
                go_wp2_with (go_at_call 18; refine NV.out.mono ?_; rintro e W5 ⟨rfl, b5⟩; have B5 := hide (BF.out.trans (b5.mono (by omega))); clear b5)
                go_ret3
                exact ⟨.inr ⟨HNO.out, rfl⟩, B5.out⟩
              · rw [ho, gtR_some] at NV
                have HY := hide (HNK.out y ho)
                have HRT2 : Hid (syB nb (syAt bs (24 * k)) k loc = rgB t k loc y) := by
                  rw [HRT.out, ho]
                  exact rfl
                have RY := hide (fun W => RI.out y W)
                clear NA HNK HRT ho RI
                go_upto_region 11 with (go_at_call 18; refine NV.out.mono ?_; rintro e W5 ⟨rfl, b5⟩; have S5 := hide (S4.out.below (Nat.le_refl _) b5); clear b5 NV)
                clear d0 d1 d2 d3 d4 d5 d6 S4 z4
                obtain ⟨d0, d1, d2, d3, d4, d5, d6⟩ := S5.out.at t (filK_at sy0 L k (by omega) t HTK.out) hlt
                have z5 := S5.out.bel.size
                have G := hide (RY.out W5)
                rcases hr : rgB t k loc y with _ | _
                · have hno : ¬ symOk bs nb loc := fun h => by
                    have h1 := PR.out.1 h k hlt
                    rw [HRT2.out, hr] at h1
                    cases h1
                  have HNO := hide hno
                  have BF := hide S5.out.bel
                  rw [hr] at G
                  clear hno hr HP S5 RY HRT2 HTK HY
                  go_wp2_with (go_at_call 19; refine G.out.mono ?_; rintro e W6 ⟨rfl, b6⟩; have B6 := hide (BF.out.trans (b6.mono (by omega))); clear b6)
                  go_ret3
                  exact ⟨.inr ⟨HNO.out, rfl⟩, B6.out⟩
                · have HP2 : Hid (∀ i, i < k + 1 → syB nb (syAt bs (24 * i)) i loc = true) := fun i hi => by
                    rcases (show i < k ∨ i = k by omega) with h5 | h5
                    · exact HP.out i h5
                    · subst h5
                      rw [HRT2.out, hr]
                  rw [hr] at G
                  clear hr HP RY HRT2 HTK
                  go_upto_region 13 with (go_at_call 19; refine G.out.mono ?_; rintro e W6 ⟨rfl, b6⟩; have S6 := hide (S5.out.below (Nat.le_refl _) b6); clear b6)
                  have S7 := hide (S6.out.put (by omega) y HY.out)
                  have q0 := S6.out.txt.frozenAt k
                  obtain ⟨u, hu⟩ : ∃ u, (csT (nmK N k))[k]? = some u := ⟨_, List.getElem?_eq_getElem (by simp [csT]; rw [nmK_len _ _ (by omega)]; omega)⟩
                  have q1 := (S6.out.txt.cellAt k (by omega)).trans hu
                  clear hu S6 S5 G d0 d1 d2 d3 d4 d5 d6
                  go_wp2
                  go_roundg (n - (k + 1))
                  case measure => omega
                  case rel => exact ⟨k + 1, by omega, rfl, by go_num, S7, HP2⟩
            · obtain rfl : k = n := by omega
              have hrow := S.out.row
              have htxt := S.out.txt
              rw [← hLl, filK_all, hLl] at hrow
              rw [← hNl, nmK_all, hNl] at htxt
              obtain ⟨a9, c9, h9, r9⟩ := Rr.own hrow HLok.out
              cases h9
              obtain ⟨a8, c8, h8, r8⟩ := Rs.own htxt
              cases h8
              have R9 := hide r9
              have R8 := hide r8
              have HY := hide (PR.out.2 HP.out)
              have BF := hide hbW
              clear hrow htxt r9 r8 S hbW HP
              go_wp2
              go_ret3
              refine ⟨.inl ⟨HY.out, ?_⟩, BF.out⟩
              rw [HN2.out, HL.out, HN.out]
              exact ⟨_, _, _, _, rfl, R9.out, R8.out⟩
        · have hno : ¬ symOk bs nb loc := fun h => hu (by have := h.2.2.2.2.1; rw [hn2] at this; exact this)
          have HNO := hide hno
          have hu' : (n : Int) < (loc : Int) := by omega
          have hq' : ¬ ((loc : Int) < 1) := by omega
          have hx' : ¬ ((500 : Int) < (n : Int)) := by omega
          clear hno r r2
          go_enter Try.func10, Try.ntmps10
          go_wp2
          go_ret3
          exact ⟨.inr ⟨HNO.out, rfl⟩, Below.refl _ _⟩
      · have hno : ¬ symOk bs nb loc := fun h => hq h.2.2.2.1
        have HNO := hide hno
        have hq' : (loc : Int) < 1 := by omega
        have hx' : ¬ ((500 : Int) < (n : Int)) := by omega
        clear hno r r2
        go_enter Try.func10, Try.ntmps10
        go_wp2
        go_ret3
        exact ⟨.inr ⟨HNO.out, rfl⟩, Below.refl _ _⟩
    · have hno : ¬ symOk bs nb loc := fun h => hx (by have := h.2.2.1; rw [hn2] at this; exact this)
      have HNO := hide hno
      have hx' : (500 : Int) < (n : Int) := by omega
      clear hno r r2
      go_enter Try.func10, Try.ntmps10
      go_wp2
      go_ret3
      exact ⟨.inr ⟨HNO.out, rfl⟩, Below.refl _ _⟩
  · have hno : ¬ symOk bs nb loc := fun h => hm (by have := h.1; rw [hl] at this; exact this)
    have HNO := hide hno
    have m0 : ((len : Int) % 24 != 0) = true := by simp; omega
    clear hno r r2
    go_enter Try.func10, Try.ntmps10
    go_wp2
    go_ret3
    exact ⟨.inr ⟨HNO.out, rfl⟩, Below.refl _ _⟩

end Go.Proofs.Ytonhahijblnfhaa
