/- The contract of symtab.Bytes: a slice that holds the symbols' bytes. -/
import Derived.Test.YtonhahijblnfhaaSymParse
import Derived.Test.YtonhahijblnfhaaPuts
import Derived.Deep.RegionHeld3
import Derived.Deep.AppendLies
namespace Go.Proofs.Ytonhahijblnfhaa
open Go.RowKit
set_option linter.unusedVariables false
set_option linter.unusedSimpArgs false

theorem Try.infoU64 : (Try.prog.info? 38).map (fun i => (i.zero, i.size, i.bytes)) = some (some (.int .u64 0), 1, 8) := by kernel_rfl

set_option maxHeartbeats 3200000 in
set_option maxRecDepth 20000 in
theorem symbytes_any (a : Option Addr) (n cap : Nat) (l : List Sy) (w : World) (r : Ry w a n cap l) (hn : n ≤ 1000000) :
    Calls Try.prog 8 #[.slice a n cap] w fun e w' => ∃ a' c', e = .returned (.slice a' (24 * n) c') ∧ Rd w' a' (24 * n) c' (sysL l) ∧ Below w.heap.size w w' := by
  have hl := r.length
  have hle := r.le
  have hmx := r.max
  obtain ⟨i0, hi, hz0, hz1, hz2⟩ := info_parts Try.infoU64
  have HOK := hide r.ok
  have HR := hide r
  clear r
  go_enter Try.func8, Try.ntmps8
  go_upto_region 2 with (at_make; refine wpList_make_own _ rfl _ _ 45 rfl w.heap.size 38 i0 (.int .u64 0) 1 Try.underlying45 hi hz0 hz1 .i64 .i64 ((n : Int) * 3) (3 * n) rfl rfl (by omega) (by rw [hz2]; omega) (by unfold maxLen; omega) (Nat.le_refl _) ?_)
  intro W1 hown hgrow
  have O1 := hide hown
  have B1 := hide ((Below.refl w.heap.size w).grown hgrow (Nat.le_refl _) (fun k hk => by cases hk))
  clear hown hgrow
  go_wp2
  go_loopg [3, 12] n (fun gg v i wr => ∃ k : Nat, k ≤ n ∧ gg = n - k ∧ i = .int .i64 (k : Int) ∧ Hid (wr.ownsRow w.heap.size 38 1 v (3 * k) ((sy3s (l.take k)).map (Value.int .u64))) ∧ Hid (Below w.heap.size w wr))
  case atStart => exact ⟨0, by omega, rfl, rfl, O1, B1⟩
  case round =>
    obtain ⟨k, hk, rfl, rfl, O, B⟩ := hrel
    clear O1 B1
    by_cases hlt : k < n
    · have hlt' : (k : Int) < (n : Int) := by omega
      obtain ⟨t, ht⟩ : ∃ t, l[k]? = some t := ⟨_, List.getElem?_eq_getElem (by omega)⟩
      have htok := HOK.out t (List.mem_of_getElem? ht)
      obtain ⟨b2, o2, rfl, hc⟩ := Ry.addr (HR.out.below B.out) (by omega)
      obtain ⟨c0, c1, c2, c3, c4, c5, c6⟩ := hc k t ht
      clear hc
      have HT := hide ht
      have PA := hide (fun W => pack_any t W htok)
      unfold syV at PA
      have hpl := syP_lt t htok
      have hv := htok.va
      have hz := htok.sz
      clear ht htok
      go_upto_region 5 with fail
      have H8 := hide (SyB.new wr t)
      have B8 := hide ((Below.refl wr.heap.size wr).alloc (Nat.le_refl _) (.cells t.cells.toArray 40))
      have O8 := hide (O.out.alloc (.cells t.cells.toArray 40))
      have ag : u3.ownBlock ≠ some wr.heap.size := fun e => by have := (O.out.lt _ e).2; omega
      obtain ⟨V, hV⟩ : ∃ V, wr.alloc (.cells #[.int .u32 (t.nm : Int), .int .i64 t.bd, .int .i64 t.ty, .int .i64 t.ot, .int .i64 t.se, .int .u64 (t.va : Int), .int .u64 (t.sz : Int)] 40) = V := ⟨_, rfl⟩
      change Hid (SyB (wr.alloc (.cells #[.int .u32 (t.nm : Int), .int .i64 t.bd, .int .i64 t.ty, .int .i64 t.ot, .int .i64 t.se, .int .u64 (t.va : Int), .int .u64 (t.sz : Int)] 40)) _ _) at H8
      change Hid (Below _ _ (wr.alloc (.cells #[.int .u32 (t.nm : Int), .int .i64 t.bd, .int .i64 t.ty, .int .i64 t.ot, .int .i64 t.se, .int .u64 (t.va : Int), .int .u64 (t.sz : Int)] 40))) at B8
      change Hid ((wr.alloc (.cells #[.int .u32 (t.nm : Int), .int .i64 t.bd, .int .i64 t.ty, .int .i64 t.ot, .int .i64 t.se, .int .u64 (t.va : Int), .int .u64 (t.sz : Int)] 40)).ownsRow _ _ _ _ _ _) at O8
      rw [hV] at H8 B8 O8 ⊢
      have hXV := H8.out.lt
      have zb := B.out.size
      have BF := hide (B.out.trans (B8.out.mono zb))
      obtain ⟨X, hX⟩ : ∃ X, wr.heap.size = X := ⟨_, rfl⟩
      rw [hX] at H8 hXV ag ⊢
      have zX : w.heap.size ≤ X := by omega
      have zV : w.heap.size ≤ V.heap.size := by omega
      clear hV c0 c1 c2 c3 c4 c5 c6 hX O B8 zb
      obtain ⟨d0, d1, d2, d3, d4, d5, d6⟩ := H8.out.at
      simp only [Nat.zero_add] at d0 d1 d2 d3 d4 d5 d6
      obtain ⟨q, hq⟩ : ∃ q, 3 * k = q := ⟨_, rfl⟩
      have hq1 : q + 3 ≤ 3000000 := by omega
      rw [hq] at O8
      obtain ⟨xs, hxs⟩ : ∃ xs, (sy3s (l.take k)).map (Value.int .u64) = xs := ⟨_, rfl⟩
      rw [hxs] at O8
      have HXS := hide hxs
      have HQ := hide hq
      clear hxs hq
      obtain ⟨p0, hp0⟩ : ∃ p : Nat, syP t = p := ⟨_, rfl⟩
      rw [hp0] at PA hpl
      have HP0 := hide hp0
      clear hp0
      go_region_held3 (fun w' => w'.cell? ⟨X, 0, none⟩ = some (.int .u32 (t.nm : Int)) ∧ w'.cell? ⟨X, 1, none⟩ = some (.int .i64 t.bd) ∧ w'.cell? ⟨X, 2, none⟩ = some (.int .i64 t.ty) ∧ w'.cell? ⟨X, 3, none⟩ = some (.int .i64 t.ot) ∧ w'.cell? ⟨X, 4, none⟩ = some (.int .i64 t.se) ∧ w'.cell? ⟨X, 5, none⟩ = some (.int .u64 (t.va : Int)) ∧ w'.cell? ⟨X, 6, none⟩ = some (.int .u64 (t.sz : Int)))
          (first
          | go_keep
          | (go_split_ands
             refine ⟨?_, ?_, ?_, ?_, ?_, ?_, ?_⟩
             · (rw [hgrow.cell_far _ (by simp; omega) (Ne.symm ag)]; assumption)
             · (rw [hgrow.cell_far _ (by simp; omega) (Ne.symm ag)]; assumption)
             · (rw [hgrow.cell_far _ (by simp; omega) (Ne.symm ag)]; assumption)
             · (rw [hgrow.cell_far _ (by simp; omega) (Ne.symm ag)]; assumption)
             · (rw [hgrow.cell_far _ (by simp; omega) (Ne.symm ag)]; assumption)
             · (rw [hgrow.cell_far _ (by simp; omega) (Ne.symm ag)]; assumption)
             · (rw [hgrow.cell_far _ (by simp; omega) (Ne.symm ag)]; assumption)))
          ((first
            | (refine step_append_lies _ (by rfl) _ _ _ (by rfl) w.heap.size 38 i0 _ 1 8 Try.underlying45 hi hz0 hz1 hz2 rfl (by omega) u3 _ _ (by rfl) (O9.out.alloc _) ⟨W3.heap.size, 0, none⟩ 3 3 [.int .u64 (p0 : Int), .int .u64 (t.va : Int), .int .u64 (t.sz : Int)] (by rfl) (by rfl) (World.news_of_block (cs := #[.int .u64 (p0 : Int), .int .u64 (t.va : Int), .int .u64 (t.sz : Int)]) (t := 38) (fr := (0, 0)) (heap_alloc_new W3 _)) (by simp [Value.oneCell']) (by omega) (by unfold maxLen; omega) (by omega) (by simp; omega) (W3.heap.size + 1) (by simp) ?_; intro gg cap2 W2 hown2 hgrow hat hlt2)
            | (go_at_call 14; refine (PA.out _).mono ?_; rintro e W3 ⟨rfl, b3⟩; have z3 : V.heap.size ≤ W3.heap.size := b3.size; have O9 := hide (ownsRow_kept0 O8.out.drew b3); have B9 := hide (BF.out.drew.trans (b3.mono zV)); obtain ⟨d0, d1, d2, d3, d4, d5, d6⟩ := (H8.out.drew.below hXV b3).at; simp only [Nat.zero_add] at d0 d1 d2 d3 d4 d5 d6; clear b3 O8 BF H8 PA)))
      have N2 : Hid (W2.ownsRow w.heap.size 38 1 (.slice (some ⟨gg, 0, none⟩) (q + 3) cap2) (3 * (k + 1)) ((sy3s (l.take (k + 1))).map (Value.int .u64))) := by
        have e : (sy3s (l.take (k + 1))).map (Value.int .u64) = xs ++ [.int .u64 (p0 : Int), .int .u64 (t.va : Int), .int .u64 (t.sz : Int)] := by
          rw [sy3s_take l k t HT.out, List.map_append, HXS.out, ← HP0.out]
          rfl
        have e2 : 3 * (k + 1) = q + 3 := by have := HQ.out; omega
        rw [e, e2]
        exact hown2
      have B2 := hide ((B9.out.alloc (by omega) _).grown hgrow (by simp; omega) (fun j hj => (O9.out.lt j hj).1))
      clear hown2 hgrow hat hlt2 O9 B9 HXS HP0 HQ HT
      go_split_ands
      go_wp2
      go_roundg (n - (k + 1))
      case measure => omega
      case rel => exact ⟨k + 1, by omega, rfl, by go_num, N2, B2⟩
    · obtain rfl : k = n := by omega
      have hrow := O.out
      rw [List.take_of_length_le (by omega)] at hrow
      obtain ⟨a9, c9, h9, r9⟩ := Rn.own (top := 18446744073709551615) hrow (sy3s_fit HOK.out) (by decide)
      subst h9
      have PT := hide (put64_any none 0 0 [] a9 (3 * k) c9 _ wr (Rd.nothing _) r9 (by omega))
      have B9 := hide B.out
      have zb := B.out.size
      clear hrow r9 O B
      have hl6 : ([] ++ flat 8 (sy3s l)).length = 24 * k := by rw [List.nil_append, flat_sy3s HOK.out, sysL_len, hl]
      have HL6 := hide hl6
      clear hl6
      go_wp2_with fail
      refine PT.out.mono ?_
      rintro e W6 ⟨a6, l6, c6, rfl, r6, b6⟩
      obtain rfl : l6 = 24 * k := r6.length.symm.trans HL6.out
      have R6 := hide r6
      have B6 := hide (B9.out.trans (b6.mono zb))
      clear b6 r6 PT B9
      go_wp2
      go_ret
      refine ⟨_, _, rfl, ?_, B6.out⟩
      have := R6.out
      rw [List.nil_append, flat_sy3s HOK.out] at this
      exact this

end Go.Proofs.Ytonhahijblnfhaa
