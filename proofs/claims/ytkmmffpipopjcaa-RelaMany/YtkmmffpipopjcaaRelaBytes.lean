/- The contract of rela.Bytes: a slice that holds the relocations' bytes. -/
import Derived.Test.YtkmmffpipopjcaaRelaParse
import Derived.Test.YtkmmffpipopjcaaPuts
import Derived.Deep.RegionHeld3
import Derived.Deep.AppendLies
namespace Go.Proofs.Ytkmmffpipopjcaa
open Go.RowKit
set_option linter.unusedVariables false
set_option linter.unusedSimpArgs false

set_option maxHeartbeats 3200000 in
set_option maxRecDepth 20000 in
theorem relbytes_any (a : Option Addr) (n cap : Nat) (l : List Re) (w : World) (r : Rl w a n cap l) (hn : n ≤ 1000000) :
    Calls Try.prog 8 #[.slice a n cap] w fun e w' => ∃ a' c', e = .returned (.slice a' (24 * n) c') ∧ Rd w' a' (24 * n) c' (resL l) ∧ Below w.heap.size w w' := by
  have hl := r.length
  have hle := r.le
  have hmx := r.max
  obtain ⟨i0, hi, hz0, hz1, hz2⟩ := info_parts Try.infoU64
  have HOK := hide r.ok
  have HR := hide r
  clear r
  go_enter Try.func8, Try.ntmps8
  go_upto_region 2 with (at_make; refine wpList_make_own _ rfl _ _ 43 rfl w.heap.size 24 i0 (.int .u64 0) 1 Try.underlying43 hi hz0 hz1 .i64 .i64 ((n : Int) * 3) (3 * n) rfl rfl (by omega) (by rw [hz2]; omega) (by unfold maxLen; omega) (Nat.le_refl _) ?_)
  intro W1 hown hgrow
  have O1 := hide hown
  have B1 := hide ((Below.refl w.heap.size w).grown hgrow (Nat.le_refl _) (fun k hk => by cases hk))
  clear hown hgrow
  go_wp2
  go_loopg [3, 12] n (fun gg v i wr => ∃ k : Nat, k ≤ n ∧ gg = n - k ∧ i = .int .i64 (k : Int) ∧ Hid (wr.ownsRow w.heap.size 24 1 v (3 * k) ((re3s (l.take k)).map (Value.int .u64))) ∧ Hid (Below w.heap.size w wr))
  case atStart => exact ⟨0, by omega, rfl, rfl, O1, B1⟩
  case round =>
    obtain ⟨k, hk, rfl, rfl, O, B⟩ := hrel
    clear O1 B1
    by_cases hlt : k < n
    · have hlt' : (k : Int) < (n : Int) := by omega
      obtain ⟨t, ht⟩ : ∃ t, l[k]? = some t := ⟨_, List.getElem?_eq_getElem (by omega)⟩
      have htok := HOK.out t (List.mem_of_getElem? ht)
      obtain ⟨b2, o2, rfl, hc⟩ := Rl.addr (HR.out.below B.out) (by omega)
      obtain ⟨c0, c1, c2, c3⟩ := hc k t ht
      clear hc
      have HT := hide ht
      have h0 := htok.off
      have h1 := htok.ty
      have h2 := htok.sy
      obtain ⟨p1, hp1⟩ : ∃ p : Nat, t.ty + 4294967296 * t.sy = p := ⟨_, rfl⟩
      obtain ⟨p2, hp2⟩ : ∃ p : Nat, adU t.ad = p := ⟨_, rfl⟩
      have x0 : IntKind.u64.wrap (t.ty : Int) = (t.ty : Int) := u64_wrap_id _ (by omega) (by omega)
      have x1 : IntKind.u64.wrap (t.sy : Int) = (t.sy : Int) := u64_wrap_id _ (by omega) (by omega)
      have x2 : IntKind.u64.wrap ((t.sy : Int) * 4294967296) = (t.sy : Int) * 4294967296 := u64_wrap_id _ (by omega) (by omega)
      have x3 : bits .or .u64 (t.ty : Int) ((t.sy : Int) * 4294967296) = (p1 : Int) := by
        rw [bits_join_low .u64 64 (by decide) wraps_u64 32 _ _ (by omega) (by omega) (by omega) (by omega) (by omega) (by omega)]
        omega
      have x4 : IntKind.u64.wrap t.ad = (p2 : Int) := by rw [IntKind.wrap_u64, ← adU_eq, hp2]
      have HE : Hid (re3 t = [(t.off : Int), (p1 : Int), (p2 : Int)]) := by show re3 t = _; unfold re3; rw [hp1, hp2]
      have hq1 : p1 < 18446744073709551616 := by omega
      have hq2 : p2 < 18446744073709551616 := by rw [← hp2]; exact adU_lt _
      clear ht htok hp1 hp2
      go_upto_region 5 with fail
      have O8 := hide (O.out.alloc (.cells t.cells.toArray 40))
      have B8 := hide (B.out.alloc B.out.size (.cells t.cells.toArray 40))
      have ag : u3.ownBlock ≠ some wr.heap.size := fun e => by have := (O.out.lt _ e).2; omega
      obtain ⟨d0, d1, d2, d3⟩ := ReB.at (Rc.Blk.new wr t)
      simp only [Nat.zero_add] at d0 d1 d2 d3
      obtain ⟨V, hV⟩ : ∃ V, wr.alloc (.cells #[.int .u64 (t.off : Int), .int .u32 (t.ty : Int), .int .u32 (t.sy : Int), .int .i64 t.ad] 40) = V := ⟨_, rfl⟩
      change Hid ((wr.alloc (.cells #[.int .u64 (t.off : Int), .int .u32 (t.ty : Int), .int .u32 (t.sy : Int), .int .i64 t.ad] 40)).ownsRow _ _ _ _ _ _) at O8
      change Hid (Below _ _ (wr.alloc (.cells #[.int .u64 (t.off : Int), .int .u32 (t.ty : Int), .int .u32 (t.sy : Int), .int .i64 t.ad] 40))) at B8
      change (wr.alloc (.cells #[.int .u64 (t.off : Int), .int .u32 (t.ty : Int), .int .u32 (t.sy : Int), .int .i64 t.ad] 40)).cell? _ = _ at d0 d1 d2 d3
      rw [hV] at O8 B8 d0 d1 d2 d3 ⊢
      have zV := B8.out.size
      clear hV c0 c1 c2 c3 O B
      obtain ⟨q, hq⟩ : ∃ q, 3 * k = q := ⟨_, rfl⟩
      have hq3 : q + 3 ≤ 3000000 := by omega
      rw [hq] at O8
      obtain ⟨xs, hxs⟩ : ∃ xs, (re3s (l.take k)).map (Value.int .u64) = xs := ⟨_, rfl⟩
      rw [hxs] at O8
      have HXS := hide hxs
      have HQ := hide hq
      clear hxs hq
      go_upto_region 6 with (at_builtin; refine wpList_append_own _ rfl _ _ 43 rfl w.heap.size 24 i0 (.int .u64 0) 1 8 Try.underlying43 hi hz0 hz1 hz2 rfl (by decide) _ _ _ rfl (O8.out.alloc _) ⟨V.heap.size, 0, none⟩ 3 3 [.int .u64 (t.off : Int), .int .u64 (p1 : Int), .int .u64 (p2 : Int)] rfl rfl (World.news_of_block (cs := #[.int .u64 (t.off : Int), .int .u64 (p1 : Int), .int .u64 (p2 : Int)]) (t := 24) (fr := (0, 0)) (heap_alloc_new V _)) (by simp [Value.oneCell']) (by unfold maxLen; omega) (by omega) (by simp; omega) ?_)
      intro v2 W2 hown2 hgrow2 _
      have N2 : Hid (W2.ownsRow w.heap.size 24 1 v2 (3 * (k + 1)) ((re3s (l.take (k + 1))).map (Value.int .u64))) := by
        have e : (re3s (l.take (k + 1))).map (Value.int .u64) = xs ++ [.int .u64 (t.off : Int), .int .u64 (p1 : Int), .int .u64 (p2 : Int)] := by
          rw [re3s_take l k t HT.out, List.map_append, HXS.out, HE.out]
          rfl
        have e2 : 3 * (k + 1) = q + 3 := by have := HQ.out; omega
        rw [e, e2]
        exact hown2
      have B2 := hide ((B8.out.alloc zV _).grown hgrow2 (by simp; omega) (fun j hj => (O8.out.lt j hj).1))
      clear hown2 hgrow2 O8 B8 HXS HQ HT HE d0 d1 d2 d3
      go_wp2
      go_roundg (n - (k + 1))
      case measure => omega
      case rel => exact ⟨k + 1, by omega, rfl, by go_num, N2, B2⟩
    · obtain rfl : k = n := by omega
      have hrow := O.out
      rw [List.take_of_length_le (by omega)] at hrow
      obtain ⟨a9, c9, h9, r9⟩ := Rn.own (top := 18446744073709551615) hrow (re3s_fit HOK.out) (by decide)
      subst h9
      have PT := hide (put64_any none 0 0 [] a9 (3 * k) c9 _ wr (Rd.nothing _) r9 (by omega))
      have B9 := hide B.out
      have zb := B.out.size
      clear hrow r9 O B
      have hl6 : ([] ++ flat 8 (re3s l)).length = 24 * k := by rw [List.nil_append, flat_re3s HOK.out, resL_len, hl]
      have HL6 := hide hl6
      clear hl6
      go_wp2_with fail
      refine PT.out.mono ?_
      rintro e W6 ⟨a6, l6, c6, rfl, r6, b6⟩
      obtain rfl : l6 = 24 * k := r6.length.symm.trans HL6.out
      have R6 := hide r6
      have B6 := hide (B9.out.trans (b6.mono zb))
      clear b6 r6 PT B9
      go_wp2
      go_ret
      refine ⟨_, _, rfl, ?_, B6.out⟩
      have := R6.out
      rw [List.nil_append, flat_re3s HOK.out] at this
      exact this

end Go.Proofs.Ytkmmffpipopjcaa
