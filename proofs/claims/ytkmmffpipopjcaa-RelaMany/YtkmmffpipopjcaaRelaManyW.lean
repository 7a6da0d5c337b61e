/- The walk of RelaMany. -/
import Derived.Test.YtkmmffpipopjcaaRelaKnown
import Derived.Test.YtkmmffpipopjcaaRelaRef
import Derived.Test.YtkmmffpipopjcaaRelaDoc
namespace Go.Proofs.Ytkmmffpipopjcaa
open Go.RowKit
set_option linter.unusedVariables false
set_option linter.unusedSimpArgs false

theorem rmany_ok (k : Nat) (h2 : k ≤ 2000) : relOk (List.replicate (24 * k) 0) 4 1 := by
  rw [← resL_zeros, rel_laid _ _ _ (fun s hs => by rw [(List.mem_replicate.1 hs).2]; exact re0_ok) (by simpa using h2)]
  intro s hs
  rw [(List.mem_replicate.1 hs).2]
  decide

/-- Turned: a place below 50, a symbol below 7. -/
def Re.trn (s : Re) : Re := ⟨s.off % 50, s.ty, s.sy % 7, s.ad⟩
theorem trn_ok {s : Re} (h : s.Ok) : s.trn.Ok := ⟨by have := h.off; simp only [Re.trn]; omega, h.ty, by have := h.sy; simp only [Re.trn]; omega, h.ad⟩
theorem trns_ok {l : List Re} (h : ∀ s ∈ l, s.Ok) : ∀ s ∈ l.map Re.trn, s.Ok := fun s hs => by
  obtain ⟨x, hx, rfl⟩ := List.mem_map.1 hs
  exact trn_ok (h x hx)
theorem trns_rel {l : List Re} (h : ∀ s ∈ l, s.Ok) (hl : l.length ≤ 20) : relOk (resL (l.map Re.trn)) 58 7 := by
  rw [rel_laid _ _ _ (trns_ok h) (by simp; omega)]
  intro s hs
  obtain ⟨x, hx, rfl⟩ := List.mem_map.1 hs
  have := reW_le x.ty
  show (decide (((x.sy % 7 : Nat) : Int) < 7) && decide (x.off % 50 + reW x.ty ≤ 58)) = true
  rw [Bool.and_eq_true, decide_eq_true_eq, decide_eq_true_eq]
  exact ⟨by omega, by omega⟩

set_option maxHeartbeats 6400000 in
set_option maxRecDepth 20000 in
theorem relamany_walk (n odd : Int) (a : Option Addr) (len cap : Nat) (l : List Re) (w : World) (hn0 : 0 ≤ n) (hn1 : n ≤ 255) (ho0 : 0 ≤ odd) (ho1 : odd ≤ 255) (rl : Rl w a len cap l) :
    Calls Try.prog 6 #[.int .u8 n, .int .u8 odd, .slice a len cap] w fun e w' => e = .returned (.bool true) ∧ Below w.heap.size w w' := by
  have hll := rl.length
  have hle := rl.le
  have hmx := rl.max
  have RL := hide rl
  have KN := hide (known_13 w)
  have HOK := hide rl.ok
  clear rl
  by_cases h20 : 20 < len
  · have h20' : (20 : Int) < (len : Int) := by omega
    go_enter Try.func6, Try.ntmps6
    go_wp2_with fail
    refine KN.out.mono ?_
    rintro e W1 ⟨rfl, b1⟩
    have B1 := hide b1
    clear b1
    go_wp2
    go_ret
    exact ⟨rfl, B1.out⟩
  have h20' : ¬ ((20 : Int) < (len : Int)) := by omega
  obtain ⟨i8, hi8, hz0, hz1, hz2⟩ := info_parts Try.info8
  obtain ⟨iY, hiY, hzY0, hzY1, hzY2⟩ := info_parts Try.infoRe
  obtain ⟨r, hr⟩ : ∃ r : Nat, n % 5 = (r : Int) := ⟨(n % 5).toNat, by omega⟩
  obtain ⟨o, ho⟩ : ∃ r : Nat, odd % 3 = (r : Int) := ⟨(odd % 3).toNat, by omega⟩
  have hr4 : r ≤ 4 := by omega
  have ho4 : o ≤ 2 := by omega
  obtain ⟨k, hk⟩ : ∃ k : Nat, 1998 + r = k := ⟨_, rfl⟩
  have hk' : 1998 + (r : Int) = (k : Int) := by omega
  obtain ⟨m, hm⟩ : ∃ m : Nat, 24 * k + o = m := ⟨_, rfl⟩
  have hm' : 24 * (k : Int) + (o : Int) = (m : Int) := by omega
  have hk1 : 1998 ≤ k := by omega
  have hk2 : k ≤ 2002 := by omega
  have hm2 : m ≤ 48050 := by omega
  have HM := hide hm
  clear hk hm
  go_enter Try.func6, Try.ntmps6
  go_wp2_with fail
  refine KN.out.mono ?_
  rintro e W1 ⟨rfl, bw1⟩
  have B1 := hide bw1
  have z1 := bw1.size
  have R1 := hide (RL.out.below bw1)
  clear bw1 KN RL
  go_upto_region 6 with fail
  go_wp2_with (at_make; refine wpList_make_full _ rfl _ _ 23 rfl W1.heap.size 5 i8 (.int .u8 0) 1 Try.underlying23 hi8 hz0 hz1 .i64 .i64 (m : Int) (m : Int) m rfl rfl rfl rfl (by rw [hz2]; omega) (by unfold maxLen; omega) (Nat.le_refl _) ?_; intro W2 hown hgrow)
  rw [show (Value.int IntKind.u8 0).cells = #[Value.int IntKind.u8 0] from rfl, Nat.mul_one, toList_madeCells_one] at hown
  have b2 := (Below.refl W1.heap.size W1).grown hgrow (Nat.le_refl _) (fun k hk => by cases hk)
  have B2 := hide (B1.out.trans (b2.mono z1))
  have z2 := B2.out.size
  have R2 := hide (R1.out.below b2)
  have hrow : W2.ownsRow W1.heap.size 5 1 (.slice (some ⟨W1.heap.size, 0, none⟩) m m) m ((List.replicate m (0 : Int)).map (Value.int .u8)) := by
    rw [List.map_replicate]
    exact hown
  obtain ⟨a9, c9, h9, r9⟩ := Rd.own hrow (fun x hx => by rw [List.mem_replicate] at hx; omega)
  cases h9
  have PA := hide (relparse_any _ m m (List.replicate m 0) 4 1 W2 r9 (by decide) (by decide) (by decide))
  clear hown hgrow hrow r9 b2 R1 B1 z1
  refine PA.out.mono ?_
  rintro e W3 ⟨hp, b3⟩
  have B3 := hide (B2.out.trans (b3.mono z2))
  have z3 := B3.out.size
  have R3 := hide (R2.out.below b3)
  clear b3 PA B2 z2 R2
  obtain ⟨ea, ec, em, te, rfl, hte, htn⟩ : ∃ (ea : Option Addr) (ec em : Nat) (te : Bool), e = .returned (.tuple #[.slice ea em ec, .int .i64 (if te then 0 else 33)]) ∧ te = (decide (k ≤ 2000) && decide (o = 0)) ∧ (te = true → em = k) := by
    have hM := HM.out
    by_cases hok : k ≤ 2000 ∧ o = 0
    · have hs : relOk (List.replicate m 0) 4 1 := by
        have := rmany_ok k hok.1
        rw [show 24 * k = m by omega] at this
        exact this
      rcases hp with ⟨_, a, c, he, _⟩ | ⟨h1, _⟩
      · exact ⟨a, c, _, true, he, by simp [hok.1, hok.2], fun _ => by rw [List.length_replicate]; omega⟩
      · exact absurd hs h1
    · have hs : ¬ relOk (List.replicate m 0) 4 1 := fun h => by
        have h1 := h.1
        have h2 := h.2.1
        rw [List.length_replicate] at h1 h2
        omega
      rcases hp with ⟨h1, _⟩ | ⟨_, he⟩
      · exact absurd h1 hs
      · refine ⟨none, 0, 0, false, he, ?_, fun h => by cases h⟩
        symm
        rw [Bool.eq_false_iff]
        intro h
        simp at h
        exact hok h
  clear hp HM
  obtain ⟨b1, b2, hb1, hb2, hte2⟩ : ∃ b1 b2 : Bool, decide ((k : Int) ≤ 2000) = b1 ∧ ((o : Int) == 0) = b2 ∧ te = (b1 && b2) := ⟨_, _, rfl, rfl, by
    rw [hte]
    congr 1
    · rw [Bool.eq_iff_iff]; simp; omega
    · rw [Bool.eq_iff_iff]; simp⟩
  clear hte
  have hkm : b1 = true → b2 = true → em = k := fun h1 h2 => htn (by rw [hte2, h1, h2]; rfl)
  have tv : (if te then (0 : Int) else 33) = (if (b1 && b2) then 0 else 33) := by rw [hte2]
  rw [tv]
  obtain ⟨tq, htq⟩ : ∃ tq : Int, (if (b1 && b2) then 0 else 33) = tq := ⟨_, rfl⟩
  rw [htq]
  have HTQ := hide htq
  have htq1 : 0 ≤ tq ∧ tq ≤ 33 := by rw [← htq]; split <;> omega
  clear tv htn hte2 htq
  go_upto_region 7 with fail
  go_cut [54] (fun u wx => u = .bool false ∧ Hid (Below W3.heap.size W3 wx))
  case first =>
    cases b1 <;> cases b2
    all_goals
      have e5 := HTQ.out
      simp only [Bool.and_true, Bool.and_false, Bool.false_and, Bool.true_and, if_true, if_false, Bool.false_eq_true] at e5
      subst e5
      (try have hem : em = k := hkm rfl rfl)
      (try subst hem)
      clear hkm
      go_wp2
      go_meet
      case rel => exact ⟨rfl, Below.refl _ _⟩
  case rest =>
    obtain ⟨rfl, BC⟩ := hcut
    have B4 := hide (B3.out.trans (BC.out.mono z3))
    have z4 := B4.out.size
    have R4 := hide (R3.out.below BC.out)
    obtain ⟨L, hL⟩ : ∃ L, l.map Re.trn = L := ⟨_, rfl⟩
    have hLl : L.length = len := by rw [← hL, List.length_map]; exact hll
    have HLa : Hid (∀ (i : Nat) (s : Re), l[i]? = some s → L[i]? = some s.trn) := fun i s h => by rw [← hL, List.getElem?_map, h]; rfl
    have HLok : Hid (∀ s ∈ L, s.Ok) := by show ∀ s ∈ L, s.Ok; rw [← hL]; exact trns_ok HOK.out
    have HLr : Hid (relOk (resL L) 58 7) := by show relOk (resL L) 58 7; rw [← hL]; exact trns_rel HOK.out (by omega)
    have S0 : Hid (RqR wc wc (.slice none 0 0) L 0) := ⟨World.ownsRow_nil _ _ _ _, Below.refl _ _⟩
    clear BC B3 z3 R3 hL hkm hb1 hb2 HTQ htq1
    go_wp2
    go_loopg [10, 11] len (fun gg v i wr => ∃ j : Nat, j ≤ len ∧ gg = len - j ∧ i = .int .i64 (j : Int) ∧ Hid (RqR wc wr v L j))
    case atStart => exact ⟨0, by omega, rfl, rfl, S0⟩
    case round =>
      obtain ⟨j, hj, rfl, rfl, S⟩ := hrel
      clear S0
      have hbW := S.out.bel
      have zr := hbW.size
      by_cases hlt : j < len
      · have hlt' : (j : Int) < (len : Int) := by omega
        obtain ⟨t, ht⟩ : ∃ t, l[j]? = some t := ⟨_, List.getElem?_eq_getElem (by omega)⟩
        have htok := HOK.out t (List.mem_of_getElem? ht)
        have HTK := hide (HLa.out j t ht)
        obtain ⟨b2, o2, rfl, hc⟩ := Rl.addr (R4.out.below hbW) (by omega)
        obtain ⟨c0, c1, c2, c3⟩ := hc j t ht
        have v0 := htok.off
        have v1 := htok.ty
        have v2 := htok.sy
        obtain ⟨f, hf⟩ : ∃ f : Nat, t.off % 50 = f := ⟨_, rfl⟩
        obtain ⟨g, hg⟩ : ∃ f : Nat, t.sy % 7 = f := ⟨_, rfl⟩
        have x1 : (t.off : Int).tmod 50 = (f : Int) := by rw [Int.tmod_eq_emod_of_nonneg (by omega)]; omega
        have x2 : (t.sy : Int).tmod 7 = (g : Int) := by rw [Int.tmod_eq_emod_of_nonneg (by omega)]; omega
        have x3 : (t.off : Int) % 50 = (f : Int) := by omega
        have x4 : (t.sy : Int) % 7 = (g : Int) := by omega
        have hf1 : f < 50 := by omega
        have hg1 : g < 7 := by omega
        have HTR : Hid (t.trn = ⟨f, t.ty, g, t.ad⟩) := by show t.trn = _; unfold Re.trn; rw [hf, hg]
        clear hc ht htok hf hg
        go_upto_region 14 with fail
        have X1 : ReB (wr.alloc (.cells t.cells.toArray 40)) wr.heap.size t := Rc.Blk.new wr t
        have b1 := (Below.refl wr.heap.size wr).alloc (Nat.le_refl _) (.cells t.cells.toArray 40)
        obtain ⟨V, hV⟩ : ∃ V, wr.alloc (.cells #[.int .u64 (t.off : Int), .int .u32 (t.ty : Int), .int .u32 (t.sy : Int), .int .i64 t.ad] 40) = V := ⟨_, rfl⟩
        change ReB (wr.alloc (.cells #[.int .u64 (t.off : Int), .int .u32 (t.ty : Int), .int .u32 (t.sy : Int), .int .i64 t.ad] 40)) _ _ at X1
        change Below _ _ (wr.alloc (.cells #[.int .u64 (t.off : Int), .int .u32 (t.ty : Int), .int .u32 (t.sy : Int), .int .i64 t.ad] 40)) at b1
        rw [hV] at X1 b1 ⊢
        have X2 : ReB ((V.setCell ⟨wr.heap.size, 0, none⟩ (.int .u64 (f : Int))).setCell ⟨wr.heap.size, 2, none⟩ (.int .u32 (g : Int))) wr.heap.size t.trn := by
          rw [HTR.out]
          exact hset_cells (hset_cells X1 0 (.int .u64 (f : Int))) 2 (.int .u32 (g : Int))
        have b2' : Below wr.heap.size wr (V.setCell ⟨wr.heap.size, 0, none⟩ (.int .u64 (f : Int))) := b1.setCell (Nat.le_refl wr.heap.size) _
        have b3' : Below wr.heap.size wr ((V.setCell ⟨wr.heap.size, 0, none⟩ (.int .u64 (f : Int))).setCell ⟨wr.heap.size, 2, none⟩ (.int .u32 (g : Int))) := b2'.setCell (Nat.le_refl wr.heap.size) _
        have S2 := hide (S.out.below b3')
        obtain ⟨d0, d1, d2, d3⟩ := ReB.at X1
        simp only [Nat.zero_add] at d0 d1 d2 d3
        have f0 := Rc.Blk.frozen X1 0
        have f2 := Rc.Blk.frozen X1 2
        have HX2 := hide X2
        clear X1 b1 b2' b3' X2 hV S c0 c1 c2 c3 x1 x2
        go_upto_region 15 with fail
        obtain ⟨U, hU⟩ : ∃ U, (V.setCell ⟨wr.heap.size, 0, none⟩ (.int .u64 (f : Int))).setCell ⟨wr.heap.size, 2, none⟩ (.int .u32 (g : Int)) = U := ⟨_, rfl⟩
        rw [hU] at S2 HX2 ⊢
        clear d0 d1 d2 d3 f0 f2 hU
        obtain ⟨d0, d1, d2, d3⟩ := ReB.at HX2.out
        rw [HTR.out] at d0 d1 d2 d3
        simp only [Nat.zero_add] at d0 d1 d2 d3
        have z2 := S2.out.bel.size
        obtain ⟨xs, hxs⟩ : ∃ xs, reC.all (L.take j) = xs := ⟨_, rfl⟩
        have ow := S2.out.row
        rw [hxs] at ow
        have OW := hide ow
        have HXS := hide hxs
        clear ow hxs HX2
        go_upto_region 12 with (at_builtin; refine wpList_append_own _ rfl _ _ 22 rfl wc.heap.size 40 iY (.agg #[.int .u64 0, .int .u32 0, .int .u32 0, .int .i64 0]) 4 24 Try.underlying22 hiY hzY0 hzY1 hzY2 rfl (by decide) _ _ _ rfl (OW.out.alloc _) ⟨U.heap.size, 0, none⟩ 1 1 [.int .u64 (f : Int), .int .u32 (t.ty : Int), .int .u32 (g : Int), .int .i64 t.ad] rfl rfl (World.news_of_block (cs := #[.int .u64 (f : Int), .int .u32 (t.ty : Int), .int .u32 (g : Int), .int .i64 t.ad]) (t := 40) (fr := (0, 0)) (heap_alloc_new U _)) (by simp [Value.oneCell']) (by unfold maxLen; omega) (by omega) (by simp; omega) ?_)
        intro v9 W9 hown9 hgrow9 _
        rw [← HXS.out] at hown9
        have hown9' : W9.ownsRow wc.heap.size 40 4 v9 (j + 1) (reC.all (L.take j) ++ t.trn.cells) := by rw [HTR.out]; exact hown9
        have S9 := hide (S2.out.push HTK.out hown9' hgrow9)
        clear hown9 hown9' hgrow9 S2 HXS OW d0 d1 d2 d3 HTK HTR
        go_wp2
        go_roundg (len - (j + 1))
        case measure => omega
        case rel => exact ⟨j + 1, by omega, rfl, by go_num, S9⟩
      · obtain rfl : j = len := by omega
        have hrow := S.out.row
        rw [List.take_of_length_le (by omega)] at hrow
        obtain ⟨a9, c9, h9, r9⟩ := Rr.own (C := reC) hrow HLok.out
        subst h9
        have R9 := hide r9
        have B5 := hide (B4.out.trans (hbW.mono z4))
        have z5 := B5.out.size
        have MB := hide (rrelb_any a9 j c9 L wr r9 (by omega))
        clear hrow r9 S hbW B4 z4 R4
        go_wp2_with fail
        refine MB.out.mono ?_
        rintro e W6 ⟨v6, rfl, o6, b6⟩
        obtain ⟨a6, c6, hv6, r6⟩ := Rd.own o6 (resL_bytes L)
        subst hv6
        have R6 := hide (R9.out.below b6)
        have B6 := hide (B5.out.trans (b6.mono z5))
        have z6 := B6.out.size
        obtain ⟨ln, hln⟩ : ∃ ln, 24 * j = ln := ⟨_, rfl⟩
        rw [hln] at r6 ⊢
        have PA := hide (relparse_any a6 ln c6 (resL L) 58 7 W6 r6 (by decide) (by decide) (by decide))
        have HLN := hide hln
        have hln2 : ln ≤ 480 := by omega
        clear o6 b6 r6 MB B5 z5 R9 hln
        go_wp2_with fail
        refine PA.out.mono ?_
        rintro e W7 ⟨hp, b7⟩
        obtain ⟨a7, c7, rfl, r7⟩ : ∃ a7 c7, e = .returned (.tuple #[.slice a7 j c7, .int .i64 0]) ∧ Rl W7 a7 j c7 L := by
          have hn : (resL L).length / 24 = j := by rw [resL_len, hLl]; omega
          rcases hp with ⟨_, a7, c7, he, h7⟩ | ⟨hno, _⟩
          · rw [hn] at he h7
            have e5 : rlsL (resL L) j = L := by rw [← hLl]; exact rls_back L HLok.out
            rw [e5] at h7
            exact ⟨a7, c7, he, h7⟩
          · exact absurd HLr.out hno
        have SM := hide (relsame_eq a7 j c7 L a9 c9 W7 r7 (R6.out.below b7))
        have B7 := hide (B6.out.trans (b7.mono z6))
        have z7 := B7.out.size
        clear hp b7 r7 PA B6 z6 R6
        go_wp2_with fail
        refine SM.out.mono ?_
        rintro e W8 ⟨rfl, b8⟩
        have B8 := hide (B7.out.trans (b8.mono z7))
        clear b8 SM B7
        go_wp2
        go_ret
        exact ⟨rfl, B8.out⟩

end Go.Proofs.Ytkmmffpipopjcaa
