/- The contract of strtab.Build: the table and the places of the state that the names come to. -/
import Derived.Test.YtlklngkgkfdfeaaStrSt
import Derived.Deep.LoopGhost
import Derived.Handy
import Derived.Deep.AppendLies
import Derived.Deep.DeepCutAuto
import Derived.BigQuiet
import Derived.Maps.AppendAt
namespace Go.Proofs.Ytlklngkgkfdfeaa
open Go.RowKit Go.Maps
set_option linter.unusedVariables false

theorem Try.info32 : (Try.prog.info? 23).map (fun i => (i.zero, i.size, i.bytes)) = some (some (.int .u32 0), 1, 4) := by kernel_rfl

theorem mk32 (w : World) (n : Nat) (hn : n ≤ 1000000) : Sem.run Try.prog (Instr.makeSlice 29 (.int .i64 0) (.int .i64 (n : Int))) w = .ok (.slice (some ⟨w.heap.size, 0, none⟩) 0 n) (w.alloc (.cells (madeCells #[.int .u32 0] n) 23)) := by
  obtain ⟨i0, hi, hz0, hz1, hz2⟩ := info_parts Try.info32
  have hmk := run_make (P := Try.prog) w 29 23 i0 (.int .u32 0) Try.underlying29 hi hz0 .i64 .i64 0 (n : Int) (by omega) (by omega) (by rw [hz2]; omega) (by omega)
  rw [hz1, Int.toNat_natCast] at hmk
  have hcs : (Value.int .u32 0).cells = #[.int .u32 0] := rfl
  rw [hcs, Nat.mul_one] at hmk
  exact hmk

theorem bel_drewN' (w : World) (n : Nat) : Below w.heap.size w (w.drewN n) := ⟨rfl, rfl, rfl, Nat.le_refl _, fun _ _ => rfl⟩

theorem zero32 (w : World) : (zeroValue 23).run Try.prog w = .ok (.int .u32 0) w := by kernel_rfl

theorem mpO_nil (s : List UInt8) : mpO [] s = updS (fun _ => none) [] (.int .u32 0) s := by
  unfold mpO updS fnd
  split <;> simp_all

set_option maxHeartbeats 6400000 in
set_option maxRecDepth 20000 in
theorem build_any (a : Option Addr) (len cap : Nat) (ns : List (List UInt8)) (w : World) (r : Rs w a len cap ns) (hr : room ns ≤ 1000000) :
    Calls Try.prog 10 #[.slice a len cap] w fun e w' => ∃ v4 v5 m k, e = .returned (.tuple #[v4, v5]) ∧ BSt w w.heap.size m w' v4 v5 (bld ns) k := by
  obtain ⟨i8, hi8, hz80, hz81, hz82⟩ := info_parts Try.info8
  obtain ⟨i0, hi, hz0, hz1, hz2⟩ := info_parts Try.info32
  have hmm := @run_makeMap Try.prog
  have hl := r.length
  have hle := r.le
  have hmx := r.max
  have hr0 : len ≤ 1000000 := by
    have h1 := (bld_good ns).at_
    have h2 : ∀ k, k ≤ ns.length → (bld (ns.take k)).at_.length = k := by
      intro k
      induction k with
      | zero => intro _; rfl
      | succ k ih =>
        intro hk
        rw [bld_take ns k (by omega)]
        unfold St.step
        split <;> simp [ih (by omega)]
    have h3 := h2 ns.length (Nat.le_refl _)
    rw [List.take_length] at h3
    omega
  have HR := hide r
  have HRM := hide hr
  clear r hr
  go_enter Try.func10, Try.ntmps10
  go_upto_region 2 with fail
  have hmk := mk32 (w.alloc (.cells #[.int .u8 0] 5)) len hr0
  have HO1 := hide (show (w.alloc (.cells #[.int .u8 0] 5)).ownsRow w.heap.size 5 1 (.slice (some ⟨w.heap.size, 0, none⟩) 1 1) 1 (cs8 [0]) from ⟨rfl, .inr ⟨w.heap.size, 1, _, rfl, Nat.le_refl _, heap_alloc_new w _, Nat.le_refl _, by unfold maxLen; omega, rfl, rfl⟩⟩)
  have HB1 := hide (show Below w.heap.size w (w.alloc (.cells #[.int .u8 0] 5)) from (Below.refl _ _).alloc (Nat.le_refl _) _)
  have hs1 : w.heap.size < (w.alloc (.cells #[.int .u8 0] 5)).heap.size := by simp
  generalize hW1 : w.alloc (.cells #[.int .u8 0] 5) = W1 at *
  clear hW1
  go_upto_region 3 with fail
  clear hmk
  have HB2 := hide (HB1.out.alloc (show w.heap.size ≤ W1.heap.size by omega) (.cells (madeCells #[.int .u32 0] len) 23))
  have HO2 := hide (HO1.out.alloc (.cells (madeCells #[.int .u32 0] len) 23))
  have HA2 := hide (W1.ownsRow_made (base := w.heap.size) (e := 23) (size := 1) (madeCells #[.int .u32 0] len) len (by omega) (by unfold maxLen; omega) (by simp [madeCells]))
  have hs2 : w.heap.size < (W1.alloc (.cells (madeCells #[.int .u32 0] len) 23)).heap.size := by simp; omega
  generalize hG1 : W1.heap.size = g1 at *
  generalize hW2 : W1.alloc (.cells (madeCells #[.int .u32 0] len) 23) = W2 at *
  clear hW2 hG1 HO1 HB1 hs1
  have HM3 := hide (MapS.made W2)
  obtain ⟨W3, hst, hm3, hg3, hz3⟩ := (MapS.made W2).store (t := 39) (e := 23) Try.underlying39 (by unfold maxLen; omega) [] (by simp) (.int .u32 0)
  have hB3 : BSt w w.heap.size W2.heap.size W3 (.slice (some ⟨w.heap.size, 0, none⟩) 1 1) (.slice (some ⟨g1, 0, none⟩) 0 len) (bld (ns.take 0)) 1 := by
    refine ⟨row_kept_map (HO2.out.alloc _) HM3.out hg3, row_kept_map (HA2.out.alloc _) HM3.out hg3, hm3.congr (fun t _ => (mpO_nil t).symm), ?_, Nat.le_refl _, by omega⟩
    exact (HB2.out.alloc (by omega) _).grown hg3 (by simp; omega) (fun j hj => by cases hj; omega)
  have HB3 := hide hB3
  have hst' : Sem.run Try.prog (Instr.mapUpdate 39 (.map (some W2.heap.size)) (.string ⟨#[]⟩) (.int .u32 0)) (W2.alloc (.map #[] 0)) = .ok () W3 := hst
  clear hst hm3 hg3 HM3 HO2 HA2 HB2 hB3 hz3
  go_upto_region 4 with fail
  clear hst' hmm
  generalize hM : W2.heap.size = m at *
  clear hM hs2
  go_wp2
  go_loopw [4, 5, 19] (fun t4 t5 i wr => ∃ (j k : Nat) (v4 v5 : Value), j ≤ len ∧ i = .int .i64 (j : Int) ∧ v4 = t4 ∧ v5 = t5 ∧ k ≤ j + 1 ∧ BSt w w.heap.size m wr v4 v5 (bld (ns.take j)) k) (fun _ _ i _ => len - (intOf i).toNat)
  case atStart => exact ⟨0, 1, _, _, by omega, rfl, rfl, rfl, by omega, HB3.out⟩
  case round =>
    obtain ⟨j, k, v4, v5, hj, rfl, rfl, rfl, hk, hS⟩ := hrel
    have HS := hide hS
    clear hS HB3
    by_cases hlt : j < len
    · obtain ⟨b, o, rfl, hc⟩ := (HR.out.below HS.out.bel).addr (by omega)
      have hcell := hc j hlt
      obtain ⟨x, hx⟩ : ∃ x, ns.getD j [] = x := ⟨_, rfl⟩
      rw [hx] at hcell
      have h1 := room_take ns j (by omega)
      have h2 := room_take_le ns (j + 1)
      have h3 := HRM.out
      have hgood := bld_good (ns.take j)
      have hT := bld_take ns j (by omega)
      rw [hx] at hT h1
      have ht1 := hgood.tab1
      have ht2 := hgood.tab
      have ht3 := hgood.at_
      have HG := hide hgood
      have hxl : x.length ≤ 1000000 := by omega
      have hnl := nmO_le x
      generalize hσ : bld (ns.take j) = σ at *
      have hrm : room (ns.take j) ≤ 1000000 := by omega
      generalize room (ns.take j) = rm at *
      generalize room (ns.take (j + 1)) = rm' at *
      have htl : σ.tab.length + x.length + 1 ≤ 1000000 := by omega
      have hal : σ.at_.length + 2 ≤ 1000000 := by omega
      obtain ⟨g4, c4, rfl, _, hlt4⟩ := HS.out.tab.form (by omega)
      have HC := hide (cutO_any x wr (by omega))
      have hsz := HS.out.size
      have HTS := hide hT
      clear hc h1 h2 h3 hgood hσ hx HRM hT ht1 ht2 ht3
      obtain ⟨s, hs⟩ : ∃ s, nmO x = s := ⟨_, rfl⟩
      rw [hs] at hnl HC
      have HSE := hide hs
      clear hs
      cases hf : fnd σ.had s with
      | some q =>
        have hq := fnd_lt (by have := HG.out.tab1; have := HG.out.tab; omega) HG.out.had hf
        have hq' : q ≤ 1000000 := by omega
        have HT : Hid (bld (ns.take (j + 1)) = ⟨σ.tab, σ.at_ ++ [q], σ.had⟩) := hide (by rw [HTS.out]; unfold St.step; rw [HSE.out, hf])
        have HLK := hide (fun (W : World) (n : Nat) (h : BSt w w.heap.size m W (.slice (some ⟨g4, 0, none⟩) σ.tab.length c4) v5 σ k) => show Sem.run Try.prog (Instr.lookup 39 (.map (some m)) (.string (str s)) true) W = .ok (.tuple #[.int .u32 (q : Int), .bool true]) W by
          have := h.map.lookOk (t := 39) (e := 23) Try.underlying39 (zero32 W) s (by omega)
          rw [show mpO σ.had s = some (.int .u32 (q : Int)) by unfold mpO; rw [hf]; rfl] at this
          exact this)
        clear hf HTS HSE HG hq
        generalize str x = X at *
        generalize str s = S at *
        go_wp2_with fail
        refine HC.out.mono ?_
        rintro e W1 ⟨t, fb, rfl, n, rfl⟩
        have H1 := hide (HS.out.grow0 (bel_drewN' wr n))
        have hlk := HLK.out _ 0 H1.out
        have hz1' : w.heap.size ≤ (wr.drewN n).heap.size := H1.out.size
        generalize hW1 : wr.drewN n = W1 at *
        clear hW1 HLK HC HS
        go_upto_region 14 with fail
        clear hlk
        go_wp2_with (at_builtin; refine wpList_append_own _ rfl _ _ 29 rfl w.heap.size 23 i0 (.int .u32 0) 1 4 Try.underlying29 hi hz0 hz1 hz2 rfl (by decide) _ _ _ rfl (H1.out.at_.alloc _) ⟨W1.heap.size, 0, none⟩ 1 1 [Value.int .u32 (q : Int)] rfl rfl (by intro j u' hj; match j, hj with | 0, hj => simp at hj; subst hj; simp [Addr.add]) (by intro u' hu'; simp at hu'; subst hu'; rfl) (by unfold maxLen; omega) (by omega) (by simp; omega) ?_; intro v5 W5 r5 g5 n5; refine Hid.out ?_)
        refine hide ?_
        have H5 := hide ((H1.out.grow0 ((Below.refl _ _).alloc (Nat.le_refl _) (.cells #[.int .u32 (q : Int)] 23))).ats r5 g5)
        clear r5 g5 n5 H1
        go_wp2
        go_roundw
        case rel => exact ⟨j + 1, k, _, _, by omega, by go_num, rfl, rfl, by omega, by rw [HT.out]; exact H5.out⟩
        case measure => simp [intOf]; omega
      | none =>
        have HT : Hid (bld (ns.take (j + 1)) = ⟨σ.tab ++ (s ++ [0]), σ.at_ ++ [σ.tab.length], σ.had ++ [(s, σ.tab.length)]⟩) := hide (by rw [HTS.out]; unfold St.step; rw [HSE.out, hf])
        have HLK := hide (fun (W : World) (n : Nat) (h : BSt w w.heap.size m W (.slice (some ⟨g4, 0, none⟩) σ.tab.length c4) v5 σ k) => show Sem.run Try.prog (Instr.lookup 39 (.map (some m)) (.string (str s)) true) W = .ok (.tuple #[.int .u32 0, .bool false]) W by
          have := h.map.lookOk (t := 39) (e := 23) Try.underlying39 (zero32 W) s (by omega)
          rw [show mpO σ.had s = none by unfold mpO; rw [hf]; rfl] at this
          exact this)
        have HF := hide hf
        have hss : (str s).size = s.length := str_size s
        have HCS := hide (cs8_str s)
        obtain ⟨tl, htl'⟩ : ∃ tl, σ.tab.length = tl := ⟨_, rfl⟩
        clear hf HTS HSE HG
        generalize hX : str x = X at *
        generalize hSS : str s = S at *
        have HSS := hide hSS
        clear hX hSS
        go_wp2_with fail
        refine HC.out.mono ?_
        rintro e W1 ⟨t, fb, rfl, n, rfl⟩
        have H1 := hide (HS.out.grow0 (bel_drewN' wr n))
        have hlk := HLK.out _ 0 H1.out
        have hz1' : w.heap.size ≤ (wr.drewN n).heap.size := H1.out.size
        generalize hW1 : wr.drewN n = W1 at *
        clear hW1 HLK HC HS
        go_upto_region 11 with fail
        clear hlk
        obtain ⟨W2, hst, hm2, hg2, hsz2⟩ := H1.out.map.store (t := 39) (e := 23) Try.underlying39 (by unfold maxLen; omega) s (by omega) (.int .u32 (tl : Int))
        rw [show mpO σ.had s = none by unfold mpO; rw [HF.out]; rfl] at hm2
        have H2 := hide (H1.out.store HF.out hm2 hg2)
        rw [HSS.out] at hst
        have hz2' := H2.out.size
        clear hm2 hg2 hsz2 H1
        go_upto_region 12 with fail
        clear hst
        go_wp2_with (at_builtin; refine Lib.wpList_append_own_string _ rfl _ _ 22 9 rfl w.heap.size 5 i8 Try.underlying22 Try.underlying9 hi8 hz80 hz81 hz82 _ _ _ rfl (show W2.ownsRow w.heap.size 5 1 (.slice (some ⟨g4, 0, none⟩) tl c4) tl (cs8 σ.tab) from htl' ▸ H2.out.tab) S rfl (by unfold maxLen; omega) (by omega) (by omega) ?_; intro v6 W6 r6 g6 n6; refine Hid.out ?_)
        refine hide ?_
        rw [HCS.out] at r6
        have H6 := hide (H2.out.tabs (l := s) r6 (htl'.symm ▸ g6))
        clear r6 g6 n6 H2
        have hz6 := H6.out.size
        go_upto_region 13 with fail
        go_wp2_with (at_builtin; refine wpList_append_own _ rfl _ _ 22 rfl w.heap.size 5 i8 (.int .u8 0) 1 1 Try.underlying22 hi8 hz80 hz81 hz82 rfl (by decide) _ _ _ rfl (H6.out.tab.alloc _) ⟨W6.heap.size, 0, none⟩ 1 1 [Value.int .u8 0] rfl rfl (by intro j u' hj; match j, hj with | 0, hj => simp at hj; subst hj; simp [Addr.add]) (by intro u' hu'; simp at hu'; subst hu'; rfl) (by unfold maxLen; simp; omega) (by simp; omega) (by simp; omega) ?_; intro v7 W7 r7 g7 n7; refine Hid.out ?_)
        refine hide ?_
        have H7 := hide ((H6.out.grow0 ((Below.refl _ _).alloc (Nat.le_refl _) (.cells #[.int .u8 0] 5))).tabs (l := [0]) r7 g7)
        clear r7 g7 n7 H6
        have hz7 := H7.out.size
        go_upto_region 14 with fail
        go_wp2_with (at_builtin; refine wpList_append_own _ rfl _ _ 29 rfl w.heap.size 23 i0 (.int .u32 0) 1 4 Try.underlying29 hi hz0 hz1 hz2 rfl (by decide) _ _ _ rfl (H7.out.at_.alloc _) ⟨W7.heap.size, 0, none⟩ 1 1 [Value.int .u32 (tl : Int)] rfl rfl (by intro j u' hj; match j, hj with | 0, hj => simp at hj; subst hj; simp [Addr.add]) (by intro u' hu'; simp at hu'; subst hu'; rfl) (by unfold maxLen; simp only []; omega) (by simp only []; omega) (by simp; omega) ?_; intro v5' W5 r5 g5 n5; refine Hid.out ?_)
        refine hide ?_
        have H5 := hide ((H7.out.grow0 ((Below.refl _ _).alloc (Nat.le_refl _) (.cells #[.int .u32 (tl : Int)] 23))).ats r5 g5)
        clear r5 g5 n5 H7
        go_wp2
        go_roundw
        case rel => exact ⟨j + 1, k + 1, _, _, by omega, by go_num, rfl, rfl, by omega, by rw [HT.out, htl', ← List.append_assoc]; exact H5.out⟩
        case measure => simp [intOf]; omega
    · obtain rfl : j = len := by omega
      have HE := hide (show bld (ns.take j) = bld ns by rw [List.take_of_length_le (by omega)])
      go_wp2
      go_ret2
      exact ⟨_, _, _, _, rfl, by rw [← HE.out]; exact HS.out⟩

end Go.Proofs.Ytlklngkgkfdfeaa
