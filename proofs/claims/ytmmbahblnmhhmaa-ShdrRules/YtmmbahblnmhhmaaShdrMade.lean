/- The contract of the statements' made: a file of a first header, these, and their names'. -/
import Derived.Test.YtmmbahblnmhhmaaShdrRef
import Derived.Deep.RegionLaw
import Derived.Lib.AppendStr
namespace Go.Proofs.Ytmmbahblnmhhmaa
open Go.RowKit
set_option linter.unusedVariables false
set_option linter.unusedSimpArgs false

def shN : Sh := ⟨3, 3, 0, 0, 72, 7, 0, 0, 1, 0⟩
theorem shN_ok : shN.Ok := ⟨by decide, by decide, by decide, by decide, by decide, by decide, by decide, by decide, by decide, by decide⟩
theorem sh0_ok : sh0.Ok := ⟨by decide, by decide, by decide, by decide, by decide, by decide, by decide, by decide, by decide, by decide⟩
/-- All headers of the made file. -/
def mdH (l : List Sh) : List Sh := (sh0 :: l) ++ [shN]
theorem mdH_len (l : List Sh) : (mdH l).length = l.length + 2 := by simp [mdH]
theorem mdH_ok {l : List Sh} (h : ∀ s ∈ l, s.Ok) : ∀ s ∈ mdH l, s.Ok := by
  intro s hs
  simp [mdH] at hs
  rcases hs with rfl | hs | rfl
  · exact sh0_ok
  · exact h s hs
  · exact shN_ok
def mdF : List Int := [1, 2, 3, 4, 5, 6, 7, 8] ++ ([0, 97, 0, 98, 99, 0, 0] ++ [0])
/-- The made file. -/
def mdB (l : List Sh) : List Int := (hb 80 ((l.length + 2 : Nat) : Int) ((l.length + 1 : Nat) : Int) ++ mdF) ++ shsL (mdH l)
theorem mdB_len (l : List Sh) : (mdB l).length = 80 + 64 * (l.length + 2) := by
  unfold mdB
  rw [List.length_append, List.length_append, hb_len, shsL_len, mdH_len]
  rfl
theorem mdB_bytes (l : List Sh) : Bytes (mdB l) := ((hb_bytes _ _ _).append (by intro x hx; simp [mdF] at hx; omega)).append (shsL_bytes _)

theorem shCells_split (l : List Sh) (j : Nat) (u : Value) (h : (shCells l)[j]? = some u) : ∃ s, l[j / 10]? = some s ∧ s.cells[j % 10]? = some u := by
  have hj : j < l.length * 10 := by
    have := (List.getElem?_eq_some_iff.1 h).1
    rw [shCells_length] at this
    exact this
  obtain ⟨s, hs⟩ : ∃ s, l[j / 10]? = some s := ⟨_, List.getElem?_eq_getElem (by omega)⟩
  refine ⟨s, hs, ?_⟩
  rw [← shCells_at l (j / 10) (j % 10) s hs (by omega), show j / 10 * 10 + j % 10 = j by omega]
  exact h
theorem Rh.cells {w : World} {a : Option Addr} {n cap : Nat} {l : List Sh} (r : Rh w a n cap l) (x : Addr) (hx : a = some x) (j : Nat) (u : Value) (h : (shCells l)[j]? = some u) : w.cell? (x.add j) = some u := by
  obtain ⟨s, h1, h2⟩ := shCells_split l j u h
  obtain ⟨b, o, h3, h4⟩ := r.cell _ s h1
  rw [hx] at h3
  cases h3
  have h5 := h4 (j % 10) (by omega)
  rw [h2] at h5
  have e : (⟨b, o, none⟩ : Addr).add j = ⟨b, o + j / 10 * 10 + j % 10, none⟩ := by
    rw [show o + j / 10 * 10 + j % 10 = o + j by omega]
    unfold Addr.add
    split <;> simp_all
  rw [e]
  exact h5

theorem ownsRow_kept0 {w w' : World} {B : Nat} {e : TypeId} {size : Nat} {v : Value} {n : Nat} {xs : List Value} (h : w.ownsRow B e size v n xs) (hb : Below w.heap.size w w') : w'.ownsRow B e size v n xs :=
  h.kept (row := none) ⟨hb.os, hb.tape, hb.output, hb.size, fun i hi _ => hb.block i hi⟩ (by cases v.ownBlock <;> simp)

set_option maxHeartbeats 3200000 in
set_option maxRecDepth 20000 in
theorem made_any (a : Option Addr) (n cap : Nat) (l : List Sh) (w : World) (r : Rh w a n cap l) (hn : n ≤ 1000) :
    Calls Try.prog 8 #[.slice a n cap] w fun e w' => ∃ v', e = .returned (.tuple #[v', hdV 80 ((n + 2 : Nat) : Int) ((n + 1 : Nat) : Int)]) ∧ w'.ownsRow w.heap.size 5 1 v' (80 + 64 * (n + 2)) ((mdB l).map (Value.int .u8)) ∧ Below w.heap.size w w' := by
  have hl := r.length
  have hle := r.le
  have hmx := r.max
  obtain ⟨iS, hiS, hzS0, hzS1, hzS2⟩ := info_parts Try.infoSh
  obtain ⟨i0, hi, hz0, hz1, hz2⟩ := info_parts Try.info8
  have HR := hide r
  clear r
  go_enter Try.func8, Try.ntmps8
  go_upto_region 2 with fail
  have b1 := (Below.refl w.heap.size w).alloc (Nat.le_refl _) (.cells #[.int .u64 0, .int .i64 0, .int .i64 0] 27)
  have z1 : (w.alloc (.cells #[.int .u64 0, .int .i64 0, .int .i64 0] 27)).heap.size = w.heap.size + 1 := by simp
  have H1 := hide (HdAt.new w 27 0 0 0)
  have X1 := hide (heap_alloc_new w (.cells #[.int .u64 0, .int .i64 0, .int .i64 0] 27))
  have B1 := hide b1
  have R1 := hide (HR.out.below b1)
  obtain ⟨W1, hW1⟩ : ∃ W1, w.alloc (.cells #[.int .u64 0, .int .i64 0, .int .i64 0] 27) = W1 := ⟨_, rfl⟩
  rw [hW1] at z1 X1 B1 R1 ⊢
  clear hW1 b1 H1
  have row0 := World.ownsRow_lit (base := w.heap.size) (e := 47) (size := 10) W1 #[.int .u32 0, .int .u32 0, .int .u64 0, .int .u64 0, .int .u64 0, .int .u64 0, .int .u32 0, .int .u32 0, .int .u64 0, .int .u64 0] 1 (by omega) (by unfold maxLen; omega) rfl
  have R1' := hide (R1.out.below ((Below.refl _ _).alloc (Nat.le_refl _) (.cells #[.int .u32 0, .int .u32 0, .int .u64 0, .int .u64 0, .int .u64 0, .int .u64 0, .int .u32 0, .int .u32 0, .int .u64 0, .int .u64 0] 47)))
  have B1' := hide (B1.out.alloc (by omega) (.cells #[.int .u32 0, .int .u32 0, .int .u64 0, .int .u64 0, .int .u64 0, .int .u64 0, .int .u32 0, .int .u32 0, .int .u64 0, .int .u64 0] 47))
  have X1' : Hid ((W1.alloc (.cells #[.int .u32 0, .int .u32 0, .int .u64 0, .int .u64 0, .int .u64 0, .int .u64 0, .int .u32 0, .int .u32 0, .int .u64 0, .int .u64 0] 47)).heap[w.heap.size]? = some (.cells #[.int .u64 0, .int .i64 0, .int .i64 0] 27 (0, 0))) := hide ((Below.heap_alloc _ _ _ (by omega)).trans X1.out)
  rw [z1] at row0
  have ROW0 := hide row0
  clear row0
  go_cut [5] (fun u wx => Hid (wx.ownsRow w.heap.size 47 10 u (1 + n) (shCells (sh0 :: l))) ∧ Hid (Below w.heap.size w wx) ∧ Hid (wx.heap[w.heap.size]? = some (.cells #[.int .u64 0, .int .i64 0, .int .i64 0] 27 (0, 0))))
  case first =>
    cases a with
    | none =>
      have hc0 := HR.out.nil rfl
      obtain rfl : n = 0 := by omega
      obtain rfl : l = [] := List.eq_nil_of_length_eq_zero hl
      subst hc0
      go_wp2_with (at_builtin; refine wpList_append_own_none rfl _ _ 22 rfl w.heap.size 47 iS 10 Try.underlying22 hiS _ 1 _ rfl ROW0.out rfl ?_)
      go_meet
      case rel => exact ⟨ROW0, B1', X1'⟩
    | some x =>
      have e0 : shCells (sh0 :: l) = #[.int .u32 0, .int .u32 0, .int .u64 0, .int .u64 0, .int .u64 0, .int .u64 0, .int .u32 0, .int .u32 0, .int .u64 0, .int .u64 0].toList ++ shCells l := by unfold shCells; rw [List.flatMap_cons]; rfl
      go_wp2_with (at_builtin; refine wpList_append_own _ rfl _ _ 22 rfl w.heap.size 47 iS (.agg #[.int .u32 0, .int .u32 0, .int .u64 0, .int .u64 0, .int .u64 0, .int .u64 0, .int .u32 0, .int .u32 0, .int .u64 0, .int .u64 0]) 10 64 Try.underlying22 hiS hzS0 hzS1 hzS2 rfl (by decide) _ 1 _ rfl ROW0.out x n cap (shCells l) rfl (by rw [shCells_length, hl]) (R1'.out.cells x rfl) (shCells_oneCell l) (by unfold maxLen; omega) (by omega) (by simp; omega) ?_)
      intro v5 W2 hown hgrow _
      have O2 : Hid (W2.ownsRow w.heap.size 47 10 v5 (1 + n) (shCells (sh0 :: l))) := by rw [e0]; exact hown
      have B2 := hide (B1'.out.grown hgrow (by simp; omega) (fun j hj => by simp [Value.ownBlock] at hj; omega))
      have X2 := hide ((hgrow.block w.heap.size (by simp; omega) (by simp [Value.ownBlock])).trans X1'.out)
      clear hown hgrow e0
      go_wp2
      go_meet
      case rel => exact ⟨O2, B2, X2⟩
  case rest =>
    obtain ⟨O2, B2, X2⟩ := hcut
    clear ROW0 R1' B1' X1' R1 B1 X1 z1
    have z2 := B2.out.size
    go_upto_region 4 with (at_builtin; refine wpList_append_lies _ rfl _ _ 22 rfl w.heap.size 47 iS (.agg #[.int .u32 0, .int .u32 0, .int .u64 0, .int .u64 0, .int .u64 0, .int .u64 0, .int .u32 0, .int .u32 0, .int .u64 0, .int .u64 0]) 10 64 Try.underlying22 hiS hzS0 hzS1 hzS2 rfl (by decide) u5 (1 + n) (shCells (sh0 :: l)) rfl (O2.out.alloc _) ⟨wc.heap.size, 0, none⟩ 1 1 [.int .u32 3, .int .u32 3, .int .u64 0, .int .u64 0, .int .u64 72, .int .u64 7, .int .u32 0, .int .u32 0, .int .u64 1, .int .u64 0] rfl rfl (World.news_of_block (cs := #[.int .u32 3, .int .u32 3, .int .u64 0, .int .u64 0, .int .u64 72, .int .u64 7, .int .u32 0, .int .u32 0, .int .u64 1, .int .u64 0]) (t := 47) (fr := (0, 0)) (heap_alloc_new wc _)) (by intro u hu; simp at hu; rcases hu with rfl | rfl | rfl | rfl | rfl | rfl | rfl | rfl <;> rfl) (by omega) (by unfold maxLen; omega) (by omega) (by simp; omega) _ rfl ?_)
    intro g5 c5 W3 hown hgrow hat hlt
    have O3 : Hid (W3.ownsRow w.heap.size 47 10 (.slice (some ⟨g5, 0, none⟩) (1 + n + 1) c5) (1 + n + 1) (shCells (mdH l))) := by
      have e : shCells (mdH l) = shCells (sh0 :: l) ++ [.int .u32 3, .int .u32 3, .int .u64 0, .int .u64 0, .int .u64 72, .int .u64 7, .int .u32 0, .int .u32 0, .int .u64 1, .int .u64 0] := by unfold mdH; rw [shCells_append]; rfl
      rw [e]
      exact hown
    have B3 := hide ((B2.out.alloc z2 _).grown hgrow (by simp; omega) (fun j hj => (O2.out.lt j hj).1))
    have X3 : Hid (W3.heap[w.heap.size]? = some (.cells #[.int .u64 0, .int .i64 0, .int .i64 0] 27 (0, 0))) := by
      have hlt2 := (Array.getElem?_eq_some_iff.1 X2.out).1
      refine (hgrow.block w.heap.size (by simp; omega) (fun e => ?_)).trans ((Below.heap_alloc _ _ _ hlt2).trans X2.out)
      obtain ⟨c1, f1, q1⟩ := Lib.ownsRow_kind O2.out w.heap.size e.symm
      rw [X2.out] at q1
      simp at q1
    have z3 := B3.out.size
    have hlt3 := (Array.getElem?_eq_some_iff.1 X3.out).1
    clear hown hgrow hat hlt O2 B2 X2 z2
    obtain ⟨N, hN⟩ : ∃ N, 1 + n + 1 = N := ⟨_, rfl⟩
    rw [hN] at O3 ⊢
    have hN1 : N = n + 2 := by omega
    have hN2 : ((N : Int) - 1) = ((n + 1 : Nat) : Int) := by omega
    obtain ⟨M, hM⟩ : ∃ M : Nat, n + 1 = M := ⟨_, rfl⟩
    rw [hM] at hN2
    have hMN : M < N := by omega
    have hNb : N ≤ 1002 := by omega
    have HN1 := hide hN1
    have HM1 := hide hM
    clear hN1 hM hN
    have b4 := (Below.refl W3.heap.size W3).alloc (Nat.le_refl _) (.cells #[.int .u64 80, .int .i64 (N : Int), .int .i64 (M : Int)] 27)
    have Y4 := hide (HdB.new W3 80 (N : Int) (M : Int))
    have O4 := hide (O3.out.alloc (.cells #[.int .u64 80, .int .i64 (N : Int), .int .i64 (M : Int)] 27))
    have X4 := hide ((b4.block w.heap.size hlt3).trans X3.out)
    have B4 := hide (B3.out.trans (b4.mono z3))
    have z4 : (W3.alloc (.cells #[.int .u64 80, .int .i64 (N : Int), .int .i64 (M : Int)] 27)).heap.size = W3.heap.size + 1 := by simp
    go_upto_region 5 with fail
    obtain ⟨Y, hY⟩ : ∃ Y, W3.heap.size = Y := ⟨_, rfl⟩
    obtain ⟨W4, hW4⟩ : ∃ W4, W3.alloc (.cells #[.int .u64 80, .int .i64 (N : Int), .int .i64 (M : Int)] 27) = W4 := ⟨_, rfl⟩
    rw [hW4] at Y4 O4 X4 B4 z4 ⊢
    rw [hY] at Y4 z4 hlt3 ⊢
    have hYW : Y < W4.heap.size := by omega
    clear hW4 hY O3 X3 B3 z3 b4 z4
    obtain ⟨q0, q1, q2, _, _, _⟩ := Y4.out.at
    have zw4 := B4.out.size
    have HH := hide (rhb_any 80 (N : Int) (M : Int) W4 (by omega) (by omega) (by omega) (by omega) (by omega) (by omega))
    unfold hdV at HH
    go_wp2_with fail
    refine HH.out.mono ?_
    rintro e W5 ⟨v5', rfl, o5, b5⟩
    have O5 := hide o5
    have B5 := hide b5
    have z5 := b5.size
    clear o5 b5 HH q0 q1 q2
    obtain ⟨L5, hL5⟩ : ∃ L5, hb 80 (N : Int) (M : Int) = L5 := ⟨_, rfl⟩
    rw [hL5] at O5
    go_upto_region 6 with (at_builtin; refine wpList_append_own _ rfl _ _ 25 rfl W4.heap.size 5 i0 (.int .u8 0) 1 1 Try.underlying25 hi hz0 hz1 hz2 rfl (by decide) _ _ _ rfl (O5.out.alloc _) ⟨W5.heap.size, 0, none⟩ 8 8 ([1, 2, 3, 4, 5, 6, 7, 8].map (Value.int .u8)) rfl rfl (World.news_of_block (cs := #[.int .u8 1, .int .u8 2, .int .u8 3, .int .u8 4, .int .u8 5, .int .u8 6, .int .u8 7, .int .u8 8]) (t := 5) (fr := (0, 0)) (heap_alloc_new W5 _)) (ints_oneCell _ _) (by unfold maxLen; omega) (by omega) (by simp; omega) ?_)
    intro v6 W6 hown hgrow _
    have O6 : Hid (W6.ownsRow W4.heap.size 5 1 v6 72 ((L5 ++ [1, 2, 3, 4, 5, 6, 7, 8]).map (Value.int .u8))) := by rw [List.map_append]; exact hown
    have B6 := hide ((B5.out.alloc z5 _).grown hgrow (by simp; omega) (fun j hj => (O5.out.lt j hj).1))
    have z6 := B6.out.size
    clear hown hgrow O5 B5 z5
    obtain ⟨L6, hL6⟩ : ∃ L6, L5 ++ [1, 2, 3, 4, 5, 6, 7, 8] = L6 := ⟨_, rfl⟩
    rw [hL6] at O6
    have HL6 := hide hL6
    clear hL6
    go_upto_region 7 with (at_builtin; refine Lib.wpList_append_own_string _ rfl _ _ 25 9 rfl W4.heap.size 5 i0 Try.underlying25 Try.underlying9 hi hz0 hz1 hz2 _ _ _ rfl O6.out ⟨#[0, 97, 0, 98, 99, 0, 0]⟩ rfl (show 72 + 7 ≤ maxLen by unfold maxLen; omega) (show 72 + 7 ≤ 140737488355328 by omega) (by omega) ?_)
    intro v7 W7 hown hgrow _
    have O7 : Hid (W7.ownsRow W4.heap.size 5 1 v7 79 ((L6 ++ [0, 97, 0, 98, 99, 0, 0]).map (Value.int .u8))) := by rw [List.map_append]; exact hown
    have B7 := hide (B6.out.grown hgrow (by omega) (fun j hj => (O6.out.lt j hj).1))
    have z7 := B7.out.size
    clear hown hgrow O6 B6 z6
    obtain ⟨L7, hL7⟩ : ∃ L7, L6 ++ [0, 97, 0, 98, 99, 0, 0] = L7 := ⟨_, rfl⟩
    rw [hL7] at O7
    have HL5 := hide hL5
    have HL7 := hide hL7
    clear hL5 hL7
    have y7 := (Y4.out.below hYW B7.out).at
    obtain ⟨y0, y1, y2, _, _, _⟩ := y7
    obtain ⟨a4, k4, e4, r4⟩ := Rh.own O4.out (mdH_ok HR.out.ok)
    cases e4
    obtain ⟨Q, hQ⟩ : ∃ Q, 64 * N = Q := ⟨_, rfl⟩
    have hQ0 : 0 < Q := by omega
    have hQ1 : Q ≤ 100000 := by omega
    have SB := hide (fun W (hW : Below W4.heap.size W4 W) => rsb_any _ N c5 (mdH l) W (r4.below hW) (by omega))
    rw [hQ] at SB
    have HQ := hide hQ
    obtain ⟨LS, hLS⟩ : ∃ LS, shsL (mdH l) = LS := ⟨_, rfl⟩
    rw [hLS] at SB
    have HLS := hide hLS
    have hLb : Bytes LS := by rw [← hLS]; exact shsL_bytes _
    have HLb := hide hLb
    clear r4 hQ hLS hLb O4
    have hRW : w.heap.size < W4.heap.size := by omega
    have hYR : ¬ Y = w.heap.size := by omega
    have hRY : ¬ w.heap.size = Y := by omega
    go_wp2
    go_region_held3 (fun w' => w'.cell? ⟨Y, 0, none⟩ = some (.int .u64 80) ∧ w'.cell? ⟨Y, 1, none⟩ = some (.int .i64 (N : Int)) ∧ w'.cell? ⟨Y, 2, none⟩ = some (.int .i64 (M : Int)))
      (go_keep)
      ((first
        | (refine step_append_lies _ (by rfl) _ _ _ (by rfl) W4.heap.size 5 i0 _ 1 1 Try.underlying25 hi hz0 hz1 hz2 rfl (by omega) _ 80 _ (by rfl) O9.out ⟨g9, 0, none⟩ Q c9 (LS.map (Value.int .u8)) (by rfl) (by rw [List.length_map, HLL.out, Nat.mul_one]) NW9.out (ints_oneCell _ _) (by omega) (by unfold maxLen; omega) (by omega) (by omega) W9.heap.size rfl ?_; intro g10 c10 W10 hown hgrow hat hlt; have O10 := hide hown; have B10 := hide (B9.out.grown hgrow (by omega) (fun j hj => (O9.out.lt j hj).1)); have y10 := (Y4.out.below hYW B10.out).at; obtain ⟨y0, y1, y2, _, _, _⟩ := y10; have x10 := (HdB.below (w := W4) (b := w.heap.size) (o := 0) (n := 0) (x := 0) X4.out hRW B10.out).at; obtain ⟨x0, x1, x2, xf0, xf1, xf2⟩ := x10; clear hown hgrow hat hlt)
        | (refine step_append_lies _ (by rfl) _ _ _ (by rfl) W4.heap.size 5 i0 _ 1 1 Try.underlying25 hi hz0 hz1 hz2 rfl (by omega) v7 _ _ (by rfl) (O7.out.drew.alloc _) ⟨W7.heap.size, 0, none⟩ 1 1 [.int .u8 0] (by rfl) (by rfl) (World.news_of_block (cs := #[.int .u8 0]) (t := 5) (fr := (0, 0)) (heap_alloc_new W7.drew _)) (by simp [Value.oneCell']) (by omega) (by unfold maxLen; omega) (by omega) (by simp; omega) (W7.heap.size + 1) (by simp) ?_; intro g8 c8 W8 hown hgrow hat hlt; have O8 := hide hown; have B8 := hide ((B7.out.drew.alloc (by simp; omega) _).grown hgrow (by simp; omega) (fun j hj => (O7.out.lt j hj).1)); have z8 := B8.out.size; have y8 := (Y4.out.below hYW B8.out).at; obtain ⟨y0, y1, y2, _, _, _⟩ := y8; clear hown hgrow hat hlt)
        | (go_at_call 15; refine (SB.out W8 B8.out).mono ?_; rintro e W9 ⟨v9, rfl, o9, b9⟩; obtain ⟨g9, c9, hv9, _, _⟩ := o9.form hQ0; subst hv9; have O9 := hide (ownsRow_kept0 O8.out b9); have NW9 := hide (o9.cells (g := g9) rfl); have HLL : Hid (LS.length = Q) := hide (by have := o9.1; simpa using this); have B9 := hide (B8.out.trans (b9.mono z8)); have z9 := B9.out.size; have y9 := (Y4.out.below hYW B9.out).at; obtain ⟨y0, y1, y2, _, _, _⟩ := y9; clear o9 b9)))
    have F : ((((W10.setCell ⟨w.heap.size, 0, none⟩ (.int .u64 80)).setCell ⟨w.heap.size, 1, none⟩ (.int .i64 (N : Int))).setCell ⟨w.heap.size, 2, none⟩ (.int .i64 (M : Int)))).heap[w.heap.size]? = some (.cells #[.int .u64 80, .int .i64 (N : Int), .int .i64 (M : Int)] 27 (0, 0)) :=
      hset_list (hset_list (hset_list (l := [.int .u64 0, .int .i64 0, .int .i64 0]) ((B10.out.block _ hRW).trans X4.out) 0 _) 1 _) 2 _
    have O11 := hide (ownsRow_setCell_below (ownsRow_setCell_below (ownsRow_setCell_below O10.out (a := ⟨w.heap.size, 0, none⟩) hRW (.int .u64 80)) (a := ⟨w.heap.size, 1, none⟩) hRW (.int .i64 (N : Int))) (a := ⟨w.heap.size, 2, none⟩) hRW (.int .i64 (M : Int)))
    have B11 := hide ((((B4.out.trans (B10.out.mono zw4)).setCell (p := ⟨w.heap.size, 0, none⟩) (Nat.le_refl _) (.int .u64 80)).setCell (p := ⟨w.heap.size, 1, none⟩) (Nat.le_refl _) (.int .i64 (N : Int))).setCell (p := ⟨w.heap.size, 2, none⟩) (Nat.le_refl _) (.int .i64 (M : Int)))
    have F11 := hide (HdB.at (b := w.heap.size) (o := 80) (n := (N : Int)) (x := (M : Int)) F)
    clear F O10 B10 O9 B9 O8 B8 O7 B7 NW9 SB
    generalize ((W10.setCell ⟨w.heap.size, 0, none⟩ (.int .u64 80)).setCell ⟨w.heap.size, 1, none⟩ (.int .i64 (N : Int))).setCell ⟨w.heap.size, 2, none⟩ (.int .i64 (M : Int)) = V at *
    go_split_ands
    go_wp2
    obtain ⟨f0, f1, f2, _, _, _⟩ := F11.out
    have hN1 := HN1.out
    have hM1 := HM1.out
    subst hN1 hM1
    refine bodyPost_ret (v := .tuple #[.slice (some ⟨g10, 0, none⟩) (80 + Q) c10, hdV 80 ((n + 2 : Nat) : Int) ((n + 1 : Nat) : Int)]) (by simp [results, Try.results8, go_sem, hdV, f0, f1, f2]) rfl ⟨_, rfl, ?_, B11.out⟩
    have e : (mdB l).map (Value.int .u8) = (L7.map (Value.int .u8) ++ [.int .u8 0]) ++ LS.map (Value.int .u8) := by
      unfold mdB mdF
      rw [hl, HLS.out, HL5.out, ← HL7.out, ← HL6.out]
      simp
    rw [e, HQ.out]
    exact ownsRow_mono O11.out zw4

end Go.Proofs.Ytmmbahblnmhhmaa
