/- The contract of group.Bytes: a slice that holds the group's bytes. -/
import Derived.Test.YtkllbcjbbfpccaaGroupOne
import Derived.Test.YtkllbcjbbfpccaaPuts
import Derived.Deep.LoopGhost
import Derived.Deep.AppendLies
namespace Go.Proofs.Ytkllbcjbbfpccaa
open Go.RowKit
set_option linter.unusedVariables false
set_option linter.unusedSimpArgs false

/-- A group's numbers. -/
def grN (l : List Int) : List Int := 1 :: l.map (· % 4294967296)
theorem grN_take (l : List Int) (k : Nat) (x : Int) (h : l[k]? = some x) : grN (l.take (k + 1)) = grN (l.take k) ++ [x % 4294967296] := by
  unfold grN
  rw [List.take_add_one, h]
  simp
theorem grN_fit (l : List Int) : ∀ x ∈ grN l, 0 ≤ x ∧ x ≤ 4294967295 := by
  intro x hx
  unfold grN at hx
  rcases List.mem_cons.1 hx with rfl | h
  · omega
  · obtain ⟨y, _, rfl⟩ := List.mem_map.1 h
    show 0 ≤ y % 4294967296 ∧ y % 4294967296 ≤ 4294967295
    omega
theorem grN_len (l : List Int) : (grN l).length = l.length + 1 := by simp [grN]
theorem flat_low32 : ∀ l : List Int, flat 4 (l.map (· % 4294967296)) = flat 4 l
  | [] => rfl
  | x :: l => by
    have ih := flat_low32 l
    simp only [List.map_cons, flat, ih, bytesOf_low32]
theorem flat_grN (l : List Int) : flat 4 (grN l) = grL l := by
  unfold grN grL
  rw [show flat 4 (1 :: l.map (· % 4294967296)) = bytesOf 1 4 ++ flat 4 (l.map (· % 4294967296)) from rfl, flat_low32]

set_option maxHeartbeats 3200000 in
set_option maxRecDepth 20000 in
theorem grbytes_any (a : Option Addr) (n cap : Nat) (l : List Int) (w : World) (r : Ri w a n cap l) (hn : n ≤ 1000000) :
    Calls Try.prog 8 #[.slice a n cap] w fun e w' => ∃ a' c', e = .returned (.slice a' (4 + n * 4) c') ∧ Rd w' a' (4 + n * 4) c' (grL l) ∧ Below w.heap.size w w' := by
  have hl := r.length
  have hle := r.row.le
  have hmx := r.row.max
  obtain ⟨i0, hi, hz0, hz1, hz2⟩ := info_parts Try.infoW32
  have HF := hide r.fit
  have HR := hide r
  clear r
  go_enter Try.func8, Try.ntmps8
  go_upto_region 2 with (at_make; refine wpList_make_own _ rfl _ _ 42 rfl w.heap.size 43 i0 (.int .u32 0) 1 Try.underlying42 hi hz0 hz1 .i64 .i64 (1 + (n : Int)) (1 + n) rfl rfl (by omega) (by rw [hz2]; omega) (by unfold maxLen; omega) (Nat.le_refl _) ?_)
  intro W1 hown hgrow
  have O1 := hide hown
  have B1 := hide ((Below.refl w.heap.size w).grown hgrow (Nat.le_refl _) (fun k hk => by cases hk))
  have z1 := B1.out.size
  clear hown hgrow
  go_upto_region 3 with (at_builtin; refine wpList_append_own _ rfl _ _ 42 rfl w.heap.size 43 i0 (.int .u32 0) 1 4 Try.underlying42 hi hz0 hz1 hz2 rfl (by decide) _ _ _ rfl (O1.out.alloc _) ⟨W1.heap.size, 0, none⟩ 1 1 [.int .u32 1] rfl rfl (World.news_of_block (cs := #[.int .u32 1]) (t := 43) (fr := (0, 0)) (heap_alloc_new W1 _)) (by simp [Value.oneCell']) (by unfold maxLen; omega) (by omega) (by simp; omega) ?_)
  intro v2 W2 hown2 hgrow2 _
  have O2 : Hid (W2.ownsRow w.heap.size 43 1 v2 (0 + 1) ((grN (l.take 0)).map (Value.int .u32))) := hown2
  have B2 := hide ((B1.out.alloc z1 _).grown hgrow2 (by simp; omega) (fun j hj => (O1.out.lt j hj).1))
  clear hown2 hgrow2 O1 B1
  go_wp2
  go_loopg [3, 15] n (fun gg v i wr => ∃ k : Nat, k ≤ n ∧ gg = n - k ∧ i = .int .i64 (k : Int) ∧ Hid (wr.ownsRow w.heap.size 43 1 v (k + 1) ((grN (l.take k)).map (Value.int .u32))) ∧ Hid (Below w.heap.size w wr))
  case atStart => exact ⟨0, by omega, rfl, rfl, O2, B2⟩
  case round =>
    obtain ⟨k, hk, rfl, rfl, O, B⟩ := hrel
    clear O2 B2
    by_cases hlt : k < n
    · have hlt' : (k : Int) < (n : Int) := by omega
      obtain ⟨t, ht⟩ : ∃ t, l[k]? = some t := ⟨_, List.getElem?_eq_getElem (by omega)⟩
      have htf := HF.out t (List.mem_of_getElem? ht)
      obtain ⟨b2, o2, rfl, hc⟩ := Ri.addr (HR.out.below B.out) (by omega)
      have c0 := hc k t ht
      clear hc
      have HT := hide ht
      obtain ⟨p, hp⟩ : ∃ p, t % 4294967296 = p := ⟨_, rfl⟩
      have x0 : IntKind.u32.wrap t = p := by rw [IntKind.wrap_u32]; exact hp
      have hp1 : 0 ≤ p ∧ p < 4294967296 := by omega
      have HPP := hide hp
      have zr := B.out.size
      obtain ⟨xs, hxs⟩ : ∃ xs, (grN (l.take k)).map (Value.int .u32) = xs := ⟨_, rfl⟩
      rw [hxs] at O
      have HXS := hide hxs
      clear ht hxs hp
      go_upto_region 7 with (at_builtin; refine wpList_append_own _ rfl _ _ 42 rfl w.heap.size 43 i0 (.int .u32 0) 1 4 Try.underlying42 hi hz0 hz1 hz2 rfl (by decide) _ _ _ rfl (O.out.alloc _) ⟨wr.heap.size, 0, none⟩ 1 1 [.int .u32 p] rfl rfl (World.news_of_block (cs := #[.int .u32 p]) (t := 43) (fr := (0, 0)) (heap_alloc_new wr _)) (by simp [Value.oneCell']) (by unfold maxLen; omega) (by omega) (by simp; omega) ?_)
      intro v9 W9 hown9 hgrow9 _
      have N2 : Hid (W9.ownsRow w.heap.size 43 1 v9 (k + 1 + 1) ((grN (l.take (k + 1))).map (Value.int .u32))) := by
        show W9.ownsRow _ _ _ _ _ _
        rw [grN_take l k t HT.out, List.map_append, HXS.out, HPP.out]
        exact hown9
      have B9 := hide ((B.out.alloc zr _).grown hgrow9 (by simp; omega) (fun j hj => (O.out.lt j hj).1))
      clear hown9 hgrow9 O B HXS HT HPP c0
      go_wp2
      go_roundg (n - (k + 1))
      case measure => omega
      case rel => exact ⟨k + 1, by omega, rfl, by go_num, N2, B9⟩
    · obtain rfl : k = n := by omega
      have hrow := O.out
      rw [List.take_of_length_le (by omega)] at hrow
      obtain ⟨a9, c9, h9, r9⟩ := Rn.own (top := 4294967295) hrow (grN_fit l) (by decide)
      subst h9
      have PT := hide (put32_any none 0 0 [] a9 (k + 1) c9 _ wr (Rd.nothing _) r9 (by omega))
      have B9 := hide B.out
      have zb := B.out.size
      clear hrow r9 O B
      have hl6 : ([] ++ flat 4 (grN l)).length = 4 + k * 4 := by rw [List.nil_append, flat_grN, grL_len, hl]
      have HL6 := hide hl6
      clear hl6
      go_wp2_with fail
      refine PT.out.mono ?_
      rintro e W6 ⟨a6, l6, c6, rfl, r6, b6⟩
      obtain rfl : l6 = 4 + k * 4 := r6.length.symm.trans HL6.out
      have R6 := hide r6
      have B6 := hide (B9.out.trans (b6.mono zb))
      clear b6 r6 PT B9
      go_wp2
      go_ret
      refine ⟨_, _, rfl, ?_, B6.out⟩
      have := R6.out
      rw [List.nil_append, flat_grN] at this
      exact this

end Go.Proofs.Ytkllbcjbbfpccaa
