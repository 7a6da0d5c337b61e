/- The walk of ShdrRules. -/
import Derived.Test.YtmmbahblnmhhmaaShdrSpoiltW
namespace Go.Proofs.Ytmmbahblnmhhmaa
open Go.RowKit
set_option linter.unusedVariables false
set_option linter.unusedSimpArgs false

def bsH : Sh := ⟨1, 1, 2, 0, 64, 8, 0, 0, 8, 0⟩
theorem bsH_ok : bsH.Ok := ⟨by decide, by decide, by decide, by decide, by decide, by decide, by decide, by decide, by decide, by decide⟩
theorem isPow_eight : isPow 8 = true := isPow_pow 3
theorem bsH_rt (size : Nat) (h : 72 ≤ size) : rtB bsH 1 size = true := by
  unfold rtB
  rw [if_neg (by decide)]
  have h1 : knB bsH.ty = true := by decide
  have h2 : flB bsH.fl = true := by decide +kernel
  have h3 : alB bsH.al = true := by unfold alB; exact decide_eq_true (.inr ⟨by decide, isPow_eight⟩)
  have h4 : hlB bsH size = true := by unfold hlB; rw [if_neg (by decide)]; exact decide_eq_true (by simp [bsH]; omega)
  rw [h1, h2, h3, h4]
  rfl

/-- So many headers, one of them t. -/
def rlL (K i : Nat) (t : Sh) : List Sh := (List.replicate K bsH).set i t
theorem rlL_len (K i : Nat) (t : Sh) : (rlL K i t).length = K := by simp [rlL]
theorem rlL_ok {K i : Nat} {t : Sh} (ht : t.Ok) : ∀ s ∈ rlL K i t, s.Ok := by
  intro s hs
  rcases List.mem_or_eq_of_mem_set hs with h | h
  · rw [List.eq_of_mem_replicate h]; exact bsH_ok
  · rw [h]; exact ht
theorem rules_prs {K i : Nat} {t : Sh} (hi : i < K) (ht : t.Ok) : prsOk (mdB (rlL K i t)) 80 ((K + 2 : Nat) : Int) ((K + 1 : Nat) : Int) ↔ (rtB t 1 (80 + 64 * (K + 2)) && decide (t.nm < 7)) = true := by
  have h := prs_made (rlL K i t) (rlL_ok ht)
  rw [rlL_len] at h
  rw [h]
  simp only [Bool.and_eq_true, decide_eq_true_eq]
  constructor
  · intro hs
    exact hs t (List.mem_iff_getElem?.2 ⟨i, by unfold rlL; rw [List.getElem?_set_self (by simpa using hi)]⟩)
  · intro h1 s hs
    rcases List.mem_or_eq_of_mem_set hs with h2 | h2
    · rw [List.eq_of_mem_replicate h2]
      exact ⟨bsH_rt _ (by omega), by decide⟩
    · rw [h2]; exact h1

theorem set_one (t s : Sh) (f : Nat) (u : Value) (hf : f < 10) (he : s.cells.set f u = t.cells) : ∀ (l : List Sh) (i : Nat), l[i]? = some s → (shCells l).set (i * 10 + f) u = shCells (l.set i t)
  | [], i, h => by simp at h
  | a :: l, 0, h => by
    simp at h
    subst h
    have e0 : shCells (a :: l) = a.cells ++ shCells l := by simp [shCells]
    have hl : a.cells.length = 10 := rfl
    rw [e0, List.set_append_left _ _ (by omega), Nat.zero_mul, Nat.zero_add, he]
    simp [shCells]
  | a :: l, i + 1, h => by
    have ih := set_one t s f u hf he l i (by simpa using h)
    have e0 : shCells (a :: l) = a.cells ++ shCells l := by simp [shCells]
    have e1 : shCells ((a :: l).set (i + 1) t) = a.cells ++ shCells (l.set i t) := by simp [shCells]
    have hl : a.cells.length = 10 := rfl
    rw [e0, e1, ← ih, List.set_append_right _ _ (by omega), hl]
    congr 2
    omega

/-- The headers as they are held by the call. -/
structure RlS (w W : World) (g K c i : Nat) (t : Sh) : Prop where
  row : W.ownsRow w.heap.size 47 10 (.slice (some ⟨g, 0, none⟩) K c) K (shCells (rlL K i t))
  bel : Below w.heap.size w W
  gB : w.heap.size ≤ g
theorem RlS.at {w W : World} {g K c i : Nat} {t : Sh} (h : RlS w W g K c i t) (hi : i < K) : ShC W g (i * 10) t :=
  ShC.of (fun j hj => (h.row.cellAt (i * 10 + j) (by omega)).trans (shCells_at _ _ _ _ (by unfold rlL; rw [List.getElem?_set_self (by simpa using hi)]) hj))
theorem RlS.set {w W : World} {g K c i : Nat} {s t : Sh} (h : RlS w W g K c i s) (hi : i < K) (f : Nat) (u : Value) (hf : f < 10) (he : s.cells.set f u = t.cells) : RlS w (W.setCell ⟨g, i * 10 + f, none⟩ u) g K c i t := by
  refine ⟨?_, h.bel.setCell h.gB _, h.gB⟩
  have e : shCells (rlL K i t) = (shCells (rlL K i s)).set (i * 10 + f) u := by
    rw [set_one t s f u hf he (rlL K i s) i (by unfold rlL; rw [List.getElem?_set_self (by simpa using hi)])]
    unfold rlL
    rw [List.set_set]
  rw [e]
  exact (h.row.stored _ _).1

theorem RlS.below {w W W' : World} {g K c i : Nat} {t : Sh} (h : RlS w W g K c i t) (hb : Below W.heap.size W W') : RlS w W' g K c i t :=
  ⟨ownsRow_kept0 h.row hb, h.bel.trans (hb.mono h.bel.size), h.gB⟩
theorem rt_one (t : Sh) (size : Nat) : rtB t 1 size = (knB t.ty && flB t.fl && decide (t.ad = 0) && alB t.al && hlB t size) := by
  unfold rtB
  rw [if_neg (by decide)]
theorem knB_one : knB 1 = true := by decide
theorem flB_two : flB 2 = true := by decide +kernel
theorem alB_eight : alB 8 = true := by unfold alB; exact decide_eq_true (.inr ⟨by decide, isPow_eight⟩)
theorem RlS.rh {w W : World} {g K c i : Nat} {t : Sh} (h : RlS w W g K c i t) (ht : t.Ok) : Rh W (some ⟨g, 0, none⟩) K c (rlL K i t) := by
  obtain ⟨a, k, e, r⟩ := Rh.own h.row (rlL_ok ht)
  cases e
  exact r

set_option maxHeartbeats 6400000 in
set_option maxRecDepth 20000 in
theorem rules_walk (n at' wt : Nat) (v : Nat) (w : World) (hn : n ≤ 255) (hat : at' ≤ 255) (hwt : wt ≤ 255) (hv : v < 18446744073709551616) :
    Calls Try.prog 6 #[.int .u8 (n : Int), .int .u8 (at' : Int), .int .u8 (wt : Int), .int .u64 (v : Int)] w fun e w' => e = .returned (.bool true) ∧ Below w.heap.size w w' := by
  obtain ⟨iH, hiH, hzH0, hzH1, hzH2⟩ := info_parts Try.infoSh
  have KN := hide (known_11 w)
  obtain ⟨q, hq⟩ : ∃ q : Nat, (n : Int) % 5 = (q : Int) := ⟨n % 5, by omega⟩
  have hq4 : q < 5 := by omega
  obtain ⟨K, hK⟩ : ∃ K : Nat, (q : Int) + 1 = (K : Int) := ⟨q + 1, by omega⟩
  have hK1 : 1 ≤ K := by omega
  have hK5 : K ≤ 5 := by omega
  go_enter Try.func6, Try.ntmps6
  go_wp2_with fail
  refine KN.out.mono ?_
  rintro e W1 ⟨rfl, b1⟩
  have B1 := hide b1
  have O1 : Hid (W1.ownsRow w.heap.size 47 10 (.slice none 0 0) 0 (shCells (List.replicate 0 bsH))) := World.ownsRow_nil _ _ _ _
  clear b1 KN
  go_wp2
  have HQ := hide hq
  have HK := hide hK
  clear hq hK
  go_loopg [10, 11] K (fun gg u i wr => ∃ j : Nat, j ≤ K ∧ gg = K - j ∧ i = .int .i64 (j : Int) ∧ Hid (wr.ownsRow w.heap.size 47 10 u j (shCells (List.replicate j bsH))) ∧ Hid (Below w.heap.size w wr))
  case atStart => exact ⟨0, by omega, rfl, rfl, O1, B1⟩
  case round =>
    obtain ⟨j, hj, rfl, rfl, O, B⟩ := hrel
    clear O1 B1
    have zb := B.out.size
    by_cases hlt : j < K
    · have hlt' : (j : Int) < (K : Int) := by omega
      go_wp2_with (at_builtin; refine wpList_append_lies _ rfl _ _ 22 rfl w.heap.size 47 iH (.agg #[.int .u32 0, .int .u32 0, .int .u64 0, .int .u64 0, .int .u64 0, .int .u64 0, .int .u32 0, .int .u32 0, .int .u64 0, .int .u64 0]) 10 64 Try.underlying22 hiH hzH0 hzH1 hzH2 rfl (by decide) u10 j (shCells (List.replicate j bsH)) rfl (O.out.alloc _) ⟨wr.heap.size, 0, none⟩ 1 1 [.int .u32 1, .int .u32 1, .int .u64 2, .int .u64 0, .int .u64 64, .int .u64 8, .int .u32 0, .int .u32 0, .int .u64 8, .int .u64 0] rfl rfl (World.news_of_block (cs := #[.int .u32 1, .int .u32 1, .int .u64 2, .int .u64 0, .int .u64 64, .int .u64 8, .int .u32 0, .int .u32 0, .int .u64 8, .int .u64 0]) (t := 47) (fr := (0, 0)) (heap_alloc_new wr _)) (shCells_oneCell [bsH]) (by omega) (by unfold maxLen; omega) (by omega) (by simp; omega) _ rfl ?_)
      intro g9 c9 W9 hown hgrow hat hlt9
      have N9 : Hid (W9.ownsRow w.heap.size 47 10 (.slice (some ⟨g9, 0, none⟩) (j + 1) c9) (j + 1) (shCells (List.replicate (j + 1) bsH))) := by
        have e : shCells (List.replicate (j + 1) bsH) = shCells (List.replicate j bsH) ++ [.int .u32 1, .int .u32 1, .int .u64 2, .int .u64 0, .int .u64 64, .int .u64 8, .int .u32 0, .int .u32 0, .int .u64 8, .int .u64 0] := by
          rw [List.replicate_succ', shCells_append]
          rfl
        rw [e]
        exact hown
      have B9 := hide ((B.out.alloc zb _).grown hgrow (by simp; omega) (fun i hi => (O.out.lt i hi).1))
      clear hown hgrow hat hlt9 O B
      go_wp2
      go_roundg (K - (j + 1))
      case measure => omega
      case rel => exact ⟨j + 1, by omega, rfl, by go_num, N9, B9⟩
    · obtain rfl : j = K := by omega
      obtain ⟨g, c, hv10, hg, hglt⟩ := O.out.form (by omega)
      subst hv10
      obtain ⟨i, hi⟩ : ∃ i : Nat, (at' : Int) % (j : Int) = (i : Int) := ⟨at' % j, by omega⟩
      have hij : i < j := by have := Int.emod_lt_of_pos (at' : Int) (b := (j : Int)) (by omega); omega
      have hi2 : (at' : Int).tmod (j : Int) = (i : Int) := by rw [Int.tmod_eq_emod_of_nonneg (by omega), hi]
      have hj0 : ¬ (j : Int) = 0 := by omega
      have hij' : (i : Int) < (j : Int) := by omega
      have eL : rlL j i bsH = List.replicate j bsH := by
        apply List.ext_getElem?
        intro m
        unfold rlL
        by_cases h5 : i = m
        · subst h5
          rw [List.getElem?_set_self (by simpa using hij), List.getElem?_replicate, if_pos hij]
        · rw [List.getElem?_set_ne h5]
      have S0 : Hid (RlS w wr g j c i bsH) := ⟨by rw [eL]; exact O.out, B.out, hg⟩
      have hcc := (Rh.own O.out (fun s hs => by rw [List.eq_of_mem_replicate hs]; exact bsH_ok))
      obtain ⟨_, _, e', r'⟩ := hcc
      cases e'
      have hle := r'.le
      have hmx := r'.max
      clear r' O B eL hi zb
      go_upto_region 11 with fail
      have hw7 : (wt : Int) % 7 = 0 ∨ (wt : Int) % 7 = 1 ∨ (wt : Int) % 7 = 2 ∨ (wt : Int) % 7 = 3 ∨ (wt : Int) % 7 = 4 ∨ (wt : Int) % 7 = 5 ∨ (wt : Int) % 7 = 6 := by omega
      obtain ⟨d0, d1, d2, d3, d4, d5, d6, d7, d8, d9⟩ := S0.out.at hij
      have ff := S0.out.row.frozenAt
      -- THE CASES
      rcases hw7 with h7 | h7 | h7 | h7 | h7 | h7 | h7
      · have hy : (v : Int) % 20 = ((v % 20 : Nat) : Int) := by omega
        obtain ⟨y, hyy⟩ : ∃ y, v % 20 = y := ⟨_, rfl⟩
        rw [hyy] at hy
        have hy20 : y < 20 := by omega
        clear hyy
        by_cases y1 : y = 1
        · have n1 : ((y : Int) == 1) = true := by simp; omega
          have n2 : ((y : Int) == 2) = false := by simp; omega
          have n3 : ((y : Int) == 3) = false := by simp; omega
          have n4 : ((y : Int) == 4) = false := by simp; omega
          have n8 : ((y : Int) == 8) = false := by simp; omega
          have n17 : ((y : Int) == 17) = false := by simp; omega
          obtain ⟨t, ht⟩ : ∃ t : Sh, t = ⟨1, y, 2, 0, 64, 8, 0, 0, 8, 0⟩ := ⟨_, rfl⟩
          have htok : t.Ok := by rw [ht]; exact ⟨by simp only []; omega, by simp only []; omega, by simp only []; omega, by simp only []; omega, by simp only []; omega, by simp only []; omega, by simp only []; omega, by simp only []; omega, by simp only []; omega, by simp only []; omega⟩
          have hrb : (rtB t 1 (80 + 64 * (j + 2)) && decide (t.nm < 7)) = true := by
            have e1 : knB (y) = true := by rw [y1]; decide
            have e2 : flB (2) = true := flB_two
            have e3 : decide ((0 : Nat) = 0) = true := rfl
            have e4 : alB (8) = true := alB_eight
            have e5 : hlB ⟨1, y, 2, 0, 64, 8, 0, 0, 8, 0⟩ (80 + 64 * (j + 2)) = true := by unfold hlB; simp only []; rw [if_neg (by omega)]; exact decide_eq_true (by omega)
            have e6 : decide ((1 : Nat) < 7) = true := rfl
            rw [ht, rt_one]
            show (knB (y) && flB (2) && decide ((0 : Nat) = 0) && alB (8) && hlB ⟨1, y, 2, 0, 64, 8, 0, 0, 8, 0⟩ (80 + 64 * (j + 2)) && decide ((1 : Nat) < 7)) = true
            rw [e1, e2, e3, e4, e5, e6]
            rfl
          clear y1
          have S1x : Hid (RlS w (wr.setCell ⟨g, i * 10 + 1, none⟩ (.int .u32 (y : Int))) g j c i t) := S0.out.set hij 1 (.int .u32 (y : Int)) (by decide) (by rw [ht]; rfl)
          have fz1 := ff (i * 10 + 1)
          clear ff
          go_upto_region 14 with fail
          generalize hVV : (wr.setCell ⟨g, i * 10 + 1, none⟩ (.int .u32 (y : Int))) = V at *
          have S1 := S1x
          clear hVV S0 S1x d0 d1 d2 d3 d4 d5 d6 d7 d8 d9
          obtain ⟨d0, d1, d2, d3, d4, d5, d6, d7, d8, d9⟩ := S1.out.at hij
          have ez : t.ty = y := by rw [ht]
          rw [ez] at d1
          clear ht ez
          go_upto_region 34 with fail
          have hok := rules_prs (K := j) hij htok
          rw [hrb] at hok
          have MA := hide (made_any _ j c (rlL j i t) V (S1.out.rh htok) (by omega))
          unfold hdV at MA
          have hl := rlL_len j i t
          clear d0 d1 d2 d3 d4 d5 d6 d7 d8 d9
          go_wp2_with fail
          refine MA.out.mono ?_
          rintro e W2 ⟨v2, rfl, o2, b2⟩
          obtain ⟨ln, hln⟩ : ∃ ln, 80 + 64 * (j + 2) = ln := ⟨_, rfl⟩
          obtain ⟨L, hL⟩ : ∃ L, mdB (rlL j i t) = L := ⟨_, rfl⟩
          have hbL : Bytes L := by rw [← hL]; exact mdB_bytes _
          rw [hL] at hok
          rw [hln, hL] at o2
          have ln0 : 65 ≤ ln := by omega
          have ln1 : ln ≤ 2000 := by omega
          obtain ⟨a2, k2, hv2, r2⟩ := Rd.own o2 hbL
          subst hv2
          have zS := S1.out.bel.size
          have B2 := hide (S1.out.bel.trans (b2.mono zS))
          have z2 := B2.out.size
          have R2 := hide r2
          obtain ⟨N, hN⟩ : ∃ N, j + 2 = N := ⟨_, rfl⟩
          obtain ⟨M, hM⟩ : ∃ M, j + 1 = M := ⟨_, rfl⟩
          rw [hN, hM] at hok ⊢
          have hNj : (j : Int) + 2 = (N : Int) := by omega
          have hNb : N ≤ 14 := by omega
          have hNa : 1 ≤ N := by omega
          have hMb : M ≤ 14 := by omega
          have HOK := hide hok
          clear o2 b2 MA hL hln hN hM r2 hbL zS hok hrb htok S1
          have b3 := (Below.refl W2.heap.size W2).alloc (Nat.le_refl _) (.cells #[.int .u64 80, .int .i64 (N : Int), .int .i64 (M : Int)] 27)
          have X3 := hide (HdB.new W2 80 (N : Int) (M : Int))
          have B3 := hide (B2.out.trans (b3.mono z2))
          have R3 := hide (R2.out.below b3)
          go_upto_region 35 with fail
          obtain ⟨Y, hY⟩ : ∃ Y, W2.heap.size = Y := ⟨_, rfl⟩
          obtain ⟨V3, hV3⟩ : ∃ V3, W2.alloc (.cells #[.int .u64 80, .int .i64 (N : Int), .int .i64 (M : Int)] 27) = V3 := ⟨_, rfl⟩
          rw [hV3] at X3 B3 R3 ⊢
          rw [hY] at X3 ⊢
          have hYV := (Array.getElem?_eq_some_iff.1 X3.out).1
          have z3 := B3.out.size
          clear hV3 hY b3 B2 z2 R2
          have P1 := hide (parse11_any _ ln k2 L 80 (N : Int) (M : Int) V3 R3.out (by omega) (by omega) (by omega) (by omega) (by omega) (by omega) (by omega))
          unfold hdV at P1
          have P2 := hide (fun W (hW : Below V3.heap.size V3 W) => rshdrs_any _ ln k2 L 80 (M : Int) N W (R3.out.below hW) (by omega) (by omega) (by omega) (by omega) (by omega) (by omega) (by omega))
          unfold hdV at P2
          obtain ⟨x0, x1, x2, _, _, _⟩ := X3.out.at
          go_wp2_with fail
          refine P1.out.mono ?_
          rintro e W5 ⟨hp, b5⟩
          obtain ⟨a1, c1, a1', c1', rfl⟩ : ∃ a c a2 c2, e = .returned (.tuple #[.slice a N c, .slice a2 N c2, .int .i64 0]) := by
            rcases hp with ⟨_, a, c, a2, c2, he, _, _⟩ | ⟨h1, _⟩
            · exact ⟨a, c, a2, c2, he⟩
            · exact absurd (HOK.out.2 (by first | trivial | rfl)) h1
          have B5 := hide (B3.out.trans (b5.mono z3))
          have z5 := B5.out.size
          have P3 := hide (P2.out W5 b5)
          have X5 := hide (X3.out.below hYV b5)
          clear hp b5 P1 P2 x0 x1 x2 X3 B3 R3
          obtain ⟨x0, x1, x2, _, _, _⟩ := X5.out.at
          go_wp2_with fail
          refine P3.out.mono ?_
          rintro e W6 ⟨hp, b6⟩
          obtain ⟨a6, c6, a6', c6', rfl⟩ : ∃ a c a2 c2, e = .returned (.tuple #[.slice a N c, .slice a2 N c2, .int .i64 0]) := by
            rcases hp with ⟨_, a, c, a2, c2, he, _, _⟩ | ⟨h1, _⟩
            · exact ⟨a, c, a2, c2, he⟩
            · exact absurd (HOK.out.2 (by first | trivial | rfl)) h1
          have B6 := hide (B5.out.trans (b6.mono z5))
          clear hp b6 P3 x0 x1 x2 X5 B5 HOK
          go_wp2
          go_ret
          exact ⟨rfl, B6.out⟩
        by_cases y2 : y = 2
        · have n1 : ((y : Int) == 1) = false := by simp; omega
          have n2 : ((y : Int) == 2) = true := by simp; omega
          have n3 : ((y : Int) == 3) = false := by simp; omega
          have n4 : ((y : Int) == 4) = false := by simp; omega
          have n8 : ((y : Int) == 8) = false := by simp; omega
          have n17 : ((y : Int) == 17) = false := by simp; omega
          obtain ⟨t, ht⟩ : ∃ t : Sh, t = ⟨1, y, 2, 0, 64, 8, 0, 0, 8, 0⟩ := ⟨_, rfl⟩
          have htok : t.Ok := by rw [ht]; exact ⟨by simp only []; omega, by simp only []; omega, by simp only []; omega, by simp only []; omega, by simp only []; omega, by simp only []; omega, by simp only []; omega, by simp only []; omega, by simp only []; omega, by simp only []; omega⟩
          have hrb : (rtB t 1 (80 + 64 * (j + 2)) && decide (t.nm < 7)) = true := by
            have e1 : knB (y) = true := by rw [y2]; decide
            have e2 : flB (2) = true := flB_two
            have e3 : decide ((0 : Nat) = 0) = true := rfl
            have e4 : alB (8) = true := alB_eight
            have e5 : hlB ⟨1, y, 2, 0, 64, 8, 0, 0, 8, 0⟩ (80 + 64 * (j + 2)) = true := by unfold hlB; simp only []; rw [if_neg (by omega)]; exact decide_eq_true (by omega)
            have e6 : decide ((1 : Nat) < 7) = true := rfl
            rw [ht, rt_one]
            show (knB (y) && flB (2) && decide ((0 : Nat) = 0) && alB (8) && hlB ⟨1, y, 2, 0, 64, 8, 0, 0, 8, 0⟩ (80 + 64 * (j + 2)) && decide ((1 : Nat) < 7)) = true
            rw [e1, e2, e3, e4, e5, e6]
            rfl
          clear y2
          have S1x : Hid (RlS w (wr.setCell ⟨g, i * 10 + 1, none⟩ (.int .u32 (y : Int))) g j c i t) := S0.out.set hij 1 (.int .u32 (y : Int)) (by decide) (by rw [ht]; rfl)
          have fz1 := ff (i * 10 + 1)
          clear ff
          go_upto_region 14 with fail
          generalize hVV : (wr.setCell ⟨g, i * 10 + 1, none⟩ (.int .u32 (y : Int))) = V at *
          have S1 := S1x
          clear hVV S0 S1x d0 d1 d2 d3 d4 d5 d6 d7 d8 d9
          obtain ⟨d0, d1, d2, d3, d4, d5, d6, d7, d8, d9⟩ := S1.out.at hij
          have ez : t.ty = y := by rw [ht]
          rw [ez] at d1
          clear ht ez
          go_upto_region 34 with fail
          have hok := rules_prs (K := j) hij htok
          rw [hrb] at hok
          have MA := hide (made_any _ j c (rlL j i t) V (S1.out.rh htok) (by omega))
          unfold hdV at MA
          have hl := rlL_len j i t
          clear d0 d1 d2 d3 d4 d5 d6 d7 d8 d9
          go_wp2_with fail
          refine MA.out.mono ?_
          rintro e W2 ⟨v2, rfl, o2, b2⟩
          obtain ⟨ln, hln⟩ : ∃ ln, 80 + 64 * (j + 2) = ln := ⟨_, rfl⟩
          obtain ⟨L, hL⟩ : ∃ L, mdB (rlL j i t) = L := ⟨_, rfl⟩
          have hbL : Bytes L := by rw [← hL]; exact mdB_bytes _
          rw [hL] at hok
          rw [hln, hL] at o2
          have ln0 : 65 ≤ ln := by omega
          have ln1 : ln ≤ 2000 := by omega
          obtain ⟨a2, k2, hv2, r2⟩ := Rd.own o2 hbL
          subst hv2
          have zS := S1.out.bel.size
          have B2 := hide (S1.out.bel.trans (b2.mono zS))
          have z2 := B2.out.size
          have R2 := hide r2
          obtain ⟨N, hN⟩ : ∃ N, j + 2 = N := ⟨_, rfl⟩
          obtain ⟨M, hM⟩ : ∃ M, j + 1 = M := ⟨_, rfl⟩
          rw [hN, hM] at hok ⊢
          have hNj : (j : Int) + 2 = (N : Int) := by omega
          have hNb : N ≤ 14 := by omega
          have hNa : 1 ≤ N := by omega
          have hMb : M ≤ 14 := by omega
          have HOK := hide hok
          clear o2 b2 MA hL hln hN hM r2 hbL zS hok hrb htok S1
          have b3 := (Below.refl W2.heap.size W2).alloc (Nat.le_refl _) (.cells #[.int .u64 80, .int .i64 (N : Int), .int .i64 (M : Int)] 27)
          have X3 := hide (HdB.new W2 80 (N : Int) (M : Int))
          have B3 := hide (B2.out.trans (b3.mono z2))
          have R3 := hide (R2.out.below b3)
          go_upto_region 35 with fail
          obtain ⟨Y, hY⟩ : ∃ Y, W2.heap.size = Y := ⟨_, rfl⟩
          obtain ⟨V3, hV3⟩ : ∃ V3, W2.alloc (.cells #[.int .u64 80, .int .i64 (N : Int), .int .i64 (M : Int)] 27) = V3 := ⟨_, rfl⟩
          rw [hV3] at X3 B3 R3 ⊢
          rw [hY] at X3 ⊢
          have hYV := (Array.getElem?_eq_some_iff.1 X3.out).1
          have z3 := B3.out.size
          clear hV3 hY b3 B2 z2 R2
          have P1 := hide (parse11_any _ ln k2 L 80 (N : Int) (M : Int) V3 R3.out (by omega) (by omega) (by omega) (by omega) (by omega) (by omega) (by omega))
          unfold hdV at P1
          have P2 := hide (fun W (hW : Below V3.heap.size V3 W) => rshdrs_any _ ln k2 L 80 (M : Int) N W (R3.out.below hW) (by omega) (by omega) (by omega) (by omega) (by omega) (by omega) (by omega))
          unfold hdV at P2
          obtain ⟨x0, x1, x2, _, _, _⟩ := X3.out.at
          go_wp2_with fail
          refine P1.out.mono ?_
          rintro e W5 ⟨hp, b5⟩
          obtain ⟨a1, c1, a1', c1', rfl⟩ : ∃ a c a2 c2, e = .returned (.tuple #[.slice a N c, .slice a2 N c2, .int .i64 0]) := by
            rcases hp with ⟨_, a, c, a2, c2, he, _, _⟩ | ⟨h1, _⟩
            · exact ⟨a, c, a2, c2, he⟩
            · exact absurd (HOK.out.2 (by first | trivial | rfl)) h1
          have B5 := hide (B3.out.trans (b5.mono z3))
          have z5 := B5.out.size
          have P3 := hide (P2.out W5 b5)
          have X5 := hide (X3.out.below hYV b5)
          clear hp b5 P1 P2 x0 x1 x2 X3 B3 R3
          obtain ⟨x0, x1, x2, _, _, _⟩ := X5.out.at
          go_wp2_with fail
          refine P3.out.mono ?_
          rintro e W6 ⟨hp, b6⟩
          obtain ⟨a6, c6, a6', c6', rfl⟩ : ∃ a c a2 c2, e = .returned (.tuple #[.slice a N c, .slice a2 N c2, .int .i64 0]) := by
            rcases hp with ⟨_, a, c, a2, c2, he, _, _⟩ | ⟨h1, _⟩
            · exact ⟨a, c, a2, c2, he⟩
            · exact absurd (HOK.out.2 (by first | trivial | rfl)) h1
          have B6 := hide (B5.out.trans (b6.mono z5))
          clear hp b6 P3 x0 x1 x2 X5 B5 HOK
          go_wp2
          go_ret
          exact ⟨rfl, B6.out⟩
        by_cases y3 : y = 3
        · have n1 : ((y : Int) == 1) = false := by simp; omega
          have n2 : ((y : Int) == 2) = false := by simp; omega
          have n3 : ((y : Int) == 3) = true := by simp; omega
          have n4 : ((y : Int) == 4) = false := by simp; omega
          have n8 : ((y : Int) == 8) = false := by simp; omega
          have n17 : ((y : Int) == 17) = false := by simp; omega
          obtain ⟨t, ht⟩ : ∃ t : Sh, t = ⟨1, y, 2, 0, 64, 8, 0, 0, 8, 0⟩ := ⟨_, rfl⟩
          have htok : t.Ok := by rw [ht]; exact ⟨by simp only []; omega, by simp only []; omega, by simp only []; omega, by simp only []; omega, by simp only []; omega, by simp only []; omega, by simp only []; omega, by simp only []; omega, by simp only []; omega, by simp only []; omega⟩
          have hrb : (rtB t 1 (80 + 64 * (j + 2)) && decide (t.nm < 7)) = true := by
            have e1 : knB (y) = true := by rw [y3]; decide
            have e2 : flB (2) = true := flB_two
            have e3 : decide ((0 : Nat) = 0) = true := rfl
            have e4 : alB (8) = true := alB_eight
            have e5 : hlB ⟨1, y, 2, 0, 64, 8, 0, 0, 8, 0⟩ (80 + 64 * (j + 2)) = true := by unfold hlB; simp only []; rw [if_neg (by omega)]; exact decide_eq_true (by omega)
            have e6 : decide ((1 : Nat) < 7) = true := rfl
            rw [ht, rt_one]
            show (knB (y) && flB (2) && decide ((0 : Nat) = 0) && alB (8) && hlB ⟨1, y, 2, 0, 64, 8, 0, 0, 8, 0⟩ (80 + 64 * (j + 2)) && decide ((1 : Nat) < 7)) = true
            rw [e1, e2, e3, e4, e5, e6]
            rfl
          clear y3
          have S1x : Hid (RlS w (wr.setCell ⟨g, i * 10 + 1, none⟩ (.int .u32 (y : Int))) g j c i t) := S0.out.set hij 1 (.int .u32 (y : Int)) (by decide) (by rw [ht]; rfl)
          have fz1 := ff (i * 10 + 1)
          clear ff
          go_upto_region 14 with fail
          generalize hVV : (wr.setCell ⟨g, i * 10 + 1, none⟩ (.int .u32 (y : Int))) = V at *
          have S1 := S1x
          clear hVV S0 S1x d0 d1 d2 d3 d4 d5 d6 d7 d8 d9
          obtain ⟨d0, d1, d2, d3, d4, d5, d6, d7, d8, d9⟩ := S1.out.at hij
          have ez : t.ty = y := by rw [ht]
          rw [ez] at d1
          clear ht ez
          go_upto_region 34 with fail
          have hok := rules_prs (K := j) hij htok
          rw [hrb] at hok
          have MA := hide (made_any _ j c (rlL j i t) V (S1.out.rh htok) (by omega))
          unfold hdV at MA
          have hl := rlL_len j i t
          clear d0 d1 d2 d3 d4 d5 d6 d7 d8 d9
          go_wp2_with fail
          refine MA.out.mono ?_
          rintro e W2 ⟨v2, rfl, o2, b2⟩
          obtain ⟨ln, hln⟩ : ∃ ln, 80 + 64 * (j + 2) = ln := ⟨_, rfl⟩
          obtain ⟨L, hL⟩ : ∃ L, mdB (rlL j i t) = L := ⟨_, rfl⟩
          have hbL : Bytes L := by rw [← hL]; exact mdB_bytes _
          rw [hL] at hok
          rw [hln, hL] at o2
          have ln0 : 65 ≤ ln := by omega
          have ln1 : ln ≤ 2000 := by omega
          obtain ⟨a2, k2, hv2, r2⟩ := Rd.own o2 hbL
          subst hv2
          have zS := S1.out.bel.size
          have B2 := hide (S1.out.bel.trans (b2.mono zS))
          have z2 := B2.out.size
          have R2 := hide r2
          obtain ⟨N, hN⟩ : ∃ N, j + 2 = N := ⟨_, rfl⟩
          obtain ⟨M, hM⟩ : ∃ M, j + 1 = M := ⟨_, rfl⟩
          rw [hN, hM] at hok ⊢
          have hNj : (j : Int) + 2 = (N : Int) := by omega
          have hNb : N ≤ 14 := by omega
          have hNa : 1 ≤ N := by omega
          have hMb : M ≤ 14 := by omega
          have HOK := hide hok
          clear o2 b2 MA hL hln hN hM r2 hbL zS hok hrb htok S1
          have b3 := (Below.refl W2.heap.size W2).alloc (Nat.le_refl _) (.cells #[.int .u64 80, .int .i64 (N : Int), .int .i64 (M : Int)] 27)
          have X3 := hide (HdB.new W2 80 (N : Int) (M : Int))
          have B3 := hide (B2.out.trans (b3.mono z2))
          have R3 := hide (R2.out.below b3)
          go_upto_region 35 with fail
          obtain ⟨Y, hY⟩ : ∃ Y, W2.heap.size = Y := ⟨_, rfl⟩
          obtain ⟨V3, hV3⟩ : ∃ V3, W2.alloc (.cells #[.int .u64 80, .int .i64 (N : Int), .int .i64 (M : Int)] 27) = V3 := ⟨_, rfl⟩
          rw [hV3] at X3 B3 R3 ⊢
          rw [hY] at X3 ⊢
          have hYV := (Array.getElem?_eq_some_iff.1 X3.out).1
          have z3 := B3.out.size
          clear hV3 hY b3 B2 z2 R2
          have P1 := hide (parse11_any _ ln k2 L 80 (N : Int) (M : Int) V3 R3.out (by omega) (by omega) (by omega) (by omega) (by omega) (by omega) (by omega))
          unfold hdV at P1
          have P2 := hide (fun W (hW : Below V3.heap.size V3 W) => rshdrs_any _ ln k2 L 80 (M : Int) N W (R3.out.below hW) (by omega) (by omega) (by omega) (by omega) (by omega) (by omega) (by omega))
          unfold hdV at P2
          obtain ⟨x0, x1, x2, _, _, _⟩ := X3.out.at
          go_wp2_with fail
          refine P1.out.mono ?_
          rintro e W5 ⟨hp, b5⟩
          obtain ⟨a1, c1, a1', c1', rfl⟩ : ∃ a c a2 c2, e = .returned (.tuple #[.slice a N c, .slice a2 N c2, .int .i64 0]) := by
            rcases hp with ⟨_, a, c, a2, c2, he, _, _⟩ | ⟨h1, _⟩
            · exact ⟨a, c, a2, c2, he⟩
            · exact absurd (HOK.out.2 (by first | trivial | rfl)) h1
          have B5 := hide (B3.out.trans (b5.mono z3))
          have z5 := B5.out.size
          have P3 := hide (P2.out W5 b5)
          have X5 := hide (X3.out.below hYV b5)
          clear hp b5 P1 P2 x0 x1 x2 X3 B3 R3
          obtain ⟨x0, x1, x2, _, _, _⟩ := X5.out.at
          go_wp2_with fail
          refine P3.out.mono ?_
          rintro e W6 ⟨hp, b6⟩
          obtain ⟨a6, c6, a6', c6', rfl⟩ : ∃ a c a2 c2, e = .returned (.tuple #[.slice a N c, .slice a2 N c2, .int .i64 0]) := by
            rcases hp with ⟨_, a, c, a2, c2, he, _, _⟩ | ⟨h1, _⟩
            · exact ⟨a, c, a2, c2, he⟩
            · exact absurd (HOK.out.2 (by first | trivial | rfl)) h1
          have B6 := hide (B5.out.trans (b6.mono z5))
          clear hp b6 P3 x0 x1 x2 X5 B5 HOK
          go_wp2
          go_ret
          exact ⟨rfl, B6.out⟩
        by_cases y4 : y = 4
        · have n1 : ((y : Int) == 1) = false := by simp; omega
          have n2 : ((y : Int) == 2) = false := by simp; omega
          have n3 : ((y : Int) == 3) = false := by simp; omega
          have n4 : ((y : Int) == 4) = true := by simp; omega
          have n8 : ((y : Int) == 8) = false := by simp; omega
          have n17 : ((y : Int) == 17) = false := by simp; omega
          obtain ⟨t, ht⟩ : ∃ t : Sh, t = ⟨1, y, 2, 0, 64, 8, 0, 0, 8, 0⟩ := ⟨_, rfl⟩
          have htok : t.Ok := by rw [ht]; exact ⟨by simp only []; omega, by simp only []; omega, by simp only []; omega, by simp only []; omega, by simp only []; omega, by simp only []; omega, by simp only []; omega, by simp only []; omega, by simp only []; omega, by simp only []; omega⟩
          have hrb : (rtB t 1 (80 + 64 * (j + 2)) && decide (t.nm < 7)) = true := by
            have e1 : knB (y) = true := by rw [y4]; decide
            have e2 : flB (2) = true := flB_two
            have e3 : decide ((0 : Nat) = 0) = true := rfl
            have e4 : alB (8) = true := alB_eight
            have e5 : hlB ⟨1, y, 2, 0, 64, 8, 0, 0, 8, 0⟩ (80 + 64 * (j + 2)) = true := by unfold hlB; simp only []; rw [if_neg (by omega)]; exact decide_eq_true (by omega)
            have e6 : decide ((1 : Nat) < 7) = true := rfl
            rw [ht, rt_one]
            show (knB (y) && flB (2) && decide ((0 : Nat) = 0) && alB (8) && hlB ⟨1, y, 2, 0, 64, 8, 0, 0, 8, 0⟩ (80 + 64 * (j + 2)) && decide ((1 : Nat) < 7)) = true
            rw [e1, e2, e3, e4, e5, e6]
            rfl
          clear y4
          have S1x : Hid (RlS w (wr.setCell ⟨g, i * 10 + 1, none⟩ (.int .u32 (y : Int))) g j c i t) := S0.out.set hij 1 (.int .u32 (y : Int)) (by decide) (by rw [ht]; rfl)
          have fz1 := ff (i * 10 + 1)
          clear ff
          go_upto_region 14 with fail
          generalize hVV : (wr.setCell ⟨g, i * 10 + 1, none⟩ (.int .u32 (y : Int))) = V at *
          have S1 := S1x
          clear hVV S0 S1x d0 d1 d2 d3 d4 d5 d6 d7 d8 d9
          obtain ⟨d0, d1, d2, d3, d4, d5, d6, d7, d8, d9⟩ := S1.out.at hij
          have ez : t.ty = y := by rw [ht]
          rw [ez] at d1
          clear ht ez
          go_upto_region 34 with fail
          have hok := rules_prs (K := j) hij htok
          rw [hrb] at hok
          have MA := hide (made_any _ j c (rlL j i t) V (S1.out.rh htok) (by omega))
          unfold hdV at MA
          have hl := rlL_len j i t
          clear d0 d1 d2 d3 d4 d5 d6 d7 d8 d9
          go_wp2_with fail
          refine MA.out.mono ?_
          rintro e W2 ⟨v2, rfl, o2, b2⟩
          obtain ⟨ln, hln⟩ : ∃ ln, 80 + 64 * (j + 2) = ln := ⟨_, rfl⟩
          obtain ⟨L, hL⟩ : ∃ L, mdB (rlL j i t) = L := ⟨_, rfl⟩
          have hbL : Bytes L := by rw [← hL]; exact mdB_bytes _
          rw [hL] at hok
          rw [hln, hL] at o2
          have ln0 : 65 ≤ ln := by omega
          have ln1 : ln ≤ 2000 := by omega
          obtain ⟨a2, k2, hv2, r2⟩ := Rd.own o2 hbL
          subst hv2
          have zS := S1.out.bel.size
          have B2 := hide (S1.out.bel.trans (b2.mono zS))
          have z2 := B2.out.size
          have R2 := hide r2
          obtain ⟨N, hN⟩ : ∃ N, j + 2 = N := ⟨_, rfl⟩
          obtain ⟨M, hM⟩ : ∃ M, j + 1 = M := ⟨_, rfl⟩
          rw [hN, hM] at hok ⊢
          have hNj : (j : Int) + 2 = (N : Int) := by omega
          have hNb : N ≤ 14 := by omega
          have hNa : 1 ≤ N := by omega
          have hMb : M ≤ 14 := by omega
          have HOK := hide hok
          clear o2 b2 MA hL hln hN hM r2 hbL zS hok hrb htok S1
          have b3 := (Below.refl W2.heap.size W2).alloc (Nat.le_refl _) (.cells #[.int .u64 80, .int .i64 (N : Int), .int .i64 (M : Int)] 27)
          have X3 := hide (HdB.new W2 80 (N : Int) (M : Int))
          have B3 := hide (B2.out.trans (b3.mono z2))
          have R3 := hide (R2.out.below b3)
          go_upto_region 35 with fail
          obtain ⟨Y, hY⟩ : ∃ Y, W2.heap.size = Y := ⟨_, rfl⟩
          obtain ⟨V3, hV3⟩ : ∃ V3, W2.alloc (.cells #[.int .u64 80, .int .i64 (N : Int), .int .i64 (M : Int)] 27) = V3 := ⟨_, rfl⟩
          rw [hV3] at X3 B3 R3 ⊢
          rw [hY] at X3 ⊢
          have hYV := (Array.getElem?_eq_some_iff.1 X3.out).1
          have z3 := B3.out.size
          clear hV3 hY b3 B2 z2 R2
          have P1 := hide (parse11_any _ ln k2 L 80 (N : Int) (M : Int) V3 R3.out (by omega) (by omega) (by omega) (by omega) (by omega) (by omega) (by omega))
          unfold hdV at P1
          have P2 := hide (fun W (hW : Below V3.heap.size V3 W) => rshdrs_any _ ln k2 L 80 (M : Int) N W (R3.out.below hW) (by omega) (by omega) (by omega) (by omega) (by omega) (by omega) (by omega))
          unfold hdV at P2
          obtain ⟨x0, x1, x2, _, _, _⟩ := X3.out.at
          go_wp2_with fail
          refine P1.out.mono ?_
          rintro e W5 ⟨hp, b5⟩
          obtain ⟨a1, c1, a1', c1', rfl⟩ : ∃ a c a2 c2, e = .returned (.tuple #[.slice a N c, .slice a2 N c2, .int .i64 0]) := by
            rcases hp with ⟨_, a, c, a2, c2, he, _, _⟩ | ⟨h1, _⟩
            · exact ⟨a, c, a2, c2, he⟩
            · exact absurd (HOK.out.2 (by first | trivial | rfl)) h1
          have B5 := hide (B3.out.trans (b5.mono z3))
          have z5 := B5.out.size
          have P3 := hide (P2.out W5 b5)
          have X5 := hide (X3.out.below hYV b5)
          clear hp b5 P1 P2 x0 x1 x2 X3 B3 R3
          obtain ⟨x0, x1, x2, _, _, _⟩ := X5.out.at
          go_wp2_with fail
          refine P3.out.mono ?_
          rintro e W6 ⟨hp, b6⟩
          obtain ⟨a6, c6, a6', c6', rfl⟩ : ∃ a c a2 c2, e = .returned (.tuple #[.slice a N c, .slice a2 N c2, .int .i64 0]) := by
            rcases hp with ⟨_, a, c, a2, c2, he, _, _⟩ | ⟨h1, _⟩
            · exact ⟨a, c, a2, c2, he⟩
            · exact absurd (HOK.out.2 (by first | trivial | rfl)) h1
          have B6 := hide (B5.out.trans (b6.mono z5))
          clear hp b6 P3 x0 x1 x2 X5 B5 HOK
          go_wp2
          go_ret
          exact ⟨rfl, B6.out⟩
        by_cases y8 : y = 8
        · have n1 : ((y : Int) == 1) = false := by simp; omega
          have n2 : ((y : Int) == 2) = false := by simp; omega
          have n3 : ((y : Int) == 3) = false := by simp; omega
          have n4 : ((y : Int) == 4) = false := by simp; omega
          have n8 : ((y : Int) == 8) = true := by simp; omega
          have n17 : ((y : Int) == 17) = false := by simp; omega
          obtain ⟨t, ht⟩ : ∃ t : Sh, t = ⟨1, y, 2, 0, 64, 8, 0, 0, 8, 0⟩ := ⟨_, rfl⟩
          have htok : t.Ok := by rw [ht]; exact ⟨by simp only []; omega, by simp only []; omega, by simp only []; omega, by simp only []; omega, by simp only []; omega, by simp only []; omega, by simp only []; omega, by simp only []; omega, by simp only []; omega, by simp only []; omega⟩
          have hrb : (rtB t 1 (80 + 64 * (j + 2)) && decide (t.nm < 7)) = true := by
            have e1 : knB (y) = true := by rw [y8]; decide
            have e2 : flB (2) = true := flB_two
            have e3 : decide ((0 : Nat) = 0) = true := rfl
            have e4 : alB (8) = true := alB_eight
            have e5 : hlB ⟨1, y, 2, 0, 64, 8, 0, 0, 8, 0⟩ (80 + 64 * (j + 2)) = true := by unfold hlB; simp only []; rw [if_pos (by omega)]; exact decide_eq_true (by omega)
            have e6 : decide ((1 : Nat) < 7) = true := rfl
            rw [ht, rt_one]
            show (knB (y) && flB (2) && decide ((0 : Nat) = 0) && alB (8) && hlB ⟨1, y, 2, 0, 64, 8, 0, 0, 8, 0⟩ (80 + 64 * (j + 2)) && decide ((1 : Nat) < 7)) = true
            rw [e1, e2, e3, e4, e5, e6]
            rfl
          clear y8
          have S1x : Hid (RlS w (wr.setCell ⟨g, i * 10 + 1, none⟩ (.int .u32 (y : Int))) g j c i t) := S0.out.set hij 1 (.int .u32 (y : Int)) (by decide) (by rw [ht]; rfl)
          have fz1 := ff (i * 10 + 1)
          clear ff
          go_upto_region 14 with fail
          generalize hVV : (wr.setCell ⟨g, i * 10 + 1, none⟩ (.int .u32 (y : Int))) = V at *
          have S1 := S1x
          clear hVV S0 S1x d0 d1 d2 d3 d4 d5 d6 d7 d8 d9
          obtain ⟨d0, d1, d2, d3, d4, d5, d6, d7, d8, d9⟩ := S1.out.at hij
          have ez : t.ty = y := by rw [ht]
          rw [ez] at d1
          clear ht ez
          go_upto_region 34 with fail
          have hok := rules_prs (K := j) hij htok
          rw [hrb] at hok
          have MA := hide (made_any _ j c (rlL j i t) V (S1.out.rh htok) (by omega))
          unfold hdV at MA
          have hl := rlL_len j i t
          clear d0 d1 d2 d3 d4 d5 d6 d7 d8 d9
          go_wp2_with fail
          refine MA.out.mono ?_
          rintro e W2 ⟨v2, rfl, o2, b2⟩
          obtain ⟨ln, hln⟩ : ∃ ln, 80 + 64 * (j + 2) = ln := ⟨_, rfl⟩
          obtain ⟨L, hL⟩ : ∃ L, mdB (rlL j i t) = L := ⟨_, rfl⟩
          have hbL : Bytes L := by rw [← hL]; exact mdB_bytes _
          rw [hL] at hok
          rw [hln, hL] at o2
          have ln0 : 65 ≤ ln := by omega
          have ln1 : ln ≤ 2000 := by omega
          obtain ⟨a2, k2, hv2, r2⟩ := Rd.own o2 hbL
          subst hv2
          have zS := S1.out.bel.size
          have B2 := hide (S1.out.bel.trans (b2.mono zS))
          have z2 := B2.out.size
          have R2 := hide r2
          obtain ⟨N, hN⟩ : ∃ N, j + 2 = N := ⟨_, rfl⟩
          obtain ⟨M, hM⟩ : ∃ M, j + 1 = M := ⟨_, rfl⟩
          rw [hN, hM] at hok ⊢
          have hNj : (j : Int) + 2 = (N : Int) := by omega
          have hNb : N ≤ 14 := by omega
          have hNa : 1 ≤ N := by omega
          have hMb : M ≤ 14 := by omega
          have HOK := hide hok
          clear o2 b2 MA hL hln hN hM r2 hbL zS hok hrb htok S1
          have b3 := (Below.refl W2.heap.size W2).alloc (Nat.le_refl _) (.cells #[.int .u64 80, .int .i64 (N : Int), .int .i64 (M : Int)] 27)
          have X3 := hide (HdB.new W2 80 (N : Int) (M : Int))
          have B3 := hide (B2.out.trans (b3.mono z2))
          have R3 := hide (R2.out.below b3)
          go_upto_region 35 with fail
          obtain ⟨Y, hY⟩ : ∃ Y, W2.heap.size = Y := ⟨_, rfl⟩
          obtain ⟨V3, hV3⟩ : ∃ V3, W2.alloc (.cells #[.int .u64 80, .int .i64 (N : Int), .int .i64 (M : Int)] 27) = V3 := ⟨_, rfl⟩
          rw [hV3] at X3 B3 R3 ⊢
          rw [hY] at X3 ⊢
          have hYV := (Array.getElem?_eq_some_iff.1 X3.out).1
          have z3 := B3.out.size
          clear hV3 hY b3 B2 z2 R2
          have P1 := hide (parse11_any _ ln k2 L 80 (N : Int) (M : Int) V3 R3.out (by omega) (by omega) (by omega) (by omega) (by omega) (by omega) (by omega))
          unfold hdV at P1
          have P2 := hide (fun W (hW : Below V3.heap.size V3 W) => rshdrs_any _ ln k2 L 80 (M : Int) N W (R3.out.below hW) (by omega) (by omega) (by omega) (by omega) (by omega) (by omega) (by omega))
          unfold hdV at P2
          obtain ⟨x0, x1, x2, _, _, _⟩ := X3.out.at
          go_wp2_with fail
          refine P1.out.mono ?_
          rintro e W5 ⟨hp, b5⟩
          obtain ⟨a1, c1, a1', c1', rfl⟩ : ∃ a c a2 c2, e = .returned (.tuple #[.slice a N c, .slice a2 N c2, .int .i64 0]) := by
            rcases hp with ⟨_, a, c, a2, c2, he, _, _⟩ | ⟨h1, _⟩
            · exact ⟨a, c, a2, c2, he⟩
            · exact absurd (HOK.out.2 (by first | trivial | rfl)) h1
          have B5 := hide (B3.out.trans (b5.mono z3))
          have z5 := B5.out.size
          have P3 := hide (P2.out W5 b5)
          have X5 := hide (X3.out.below hYV b5)
          clear hp b5 P1 P2 x0 x1 x2 X3 B3 R3
          obtain ⟨x0, x1, x2, _, _, _⟩ := X5.out.at
          go_wp2_with fail
          refine P3.out.mono ?_
          rintro e W6 ⟨hp, b6⟩
          obtain ⟨a6, c6, a6', c6', rfl⟩ : ∃ a c a2 c2, e = .returned (.tuple #[.slice a N c, .slice a2 N c2, .int .i64 0]) := by
            rcases hp with ⟨_, a, c, a2, c2, he, _, _⟩ | ⟨h1, _⟩
            · exact ⟨a, c, a2, c2, he⟩
            · exact absurd (HOK.out.2 (by first | trivial | rfl)) h1
          have B6 := hide (B5.out.trans (b6.mono z5))
          clear hp b6 P3 x0 x1 x2 X5 B5 HOK
          go_wp2
          go_ret
          exact ⟨rfl, B6.out⟩
        by_cases y17 : y = 17
        · have n1 : ((y : Int) == 1) = false := by simp; omega
          have n2 : ((y : Int) == 2) = false := by simp; omega
          have n3 : ((y : Int) == 3) = false := by simp; omega
          have n4 : ((y : Int) == 4) = false := by simp; omega
          have n8 : ((y : Int) == 8) = false := by simp; omega
          have n17 : ((y : Int) == 17) = true := by simp; omega
          obtain ⟨t, ht⟩ : ∃ t : Sh, t = ⟨1, y, 2, 0, 64, 8, 0, 0, 8, 0⟩ := ⟨_, rfl⟩
          have htok : t.Ok := by rw [ht]; exact ⟨by simp only []; omega, by simp only []; omega, by simp only []; omega, by simp only []; omega, by simp only []; omega, by simp only []; omega, by simp only []; omega, by simp only []; omega, by simp only []; omega, by simp only []; omega⟩
          have hrb : (rtB t 1 (80 + 64 * (j + 2)) && decide (t.nm < 7)) = true := by
            have e1 : knB (y) = true := by rw [y17]; decide
            have e2 : flB (2) = true := flB_two
            have e3 : decide ((0 : Nat) = 0) = true := rfl
            have e4 : alB (8) = true := alB_eight
            have e5 : hlB ⟨1, y, 2, 0, 64, 8, 0, 0, 8, 0⟩ (80 + 64 * (j + 2)) = true := by unfold hlB; simp only []; rw [if_neg (by omega)]; exact decide_eq_true (by omega)
            have e6 : decide ((1 : Nat) < 7) = true := rfl
            rw [ht, rt_one]
            show (knB (y) && flB (2) && decide ((0 : Nat) = 0) && alB (8) && hlB ⟨1, y, 2, 0, 64, 8, 0, 0, 8, 0⟩ (80 + 64 * (j + 2)) && decide ((1 : Nat) < 7)) = true
            rw [e1, e2, e3, e4, e5, e6]
            rfl
          clear y17
          have S1x : Hid (RlS w (wr.setCell ⟨g, i * 10 + 1, none⟩ (.int .u32 (y : Int))) g j c i t) := S0.out.set hij 1 (.int .u32 (y : Int)) (by decide) (by rw [ht]; rfl)
          have fz1 := ff (i * 10 + 1)
          clear ff
          go_upto_region 14 with fail
          generalize hVV : (wr.setCell ⟨g, i * 10 + 1, none⟩ (.int .u32 (y : Int))) = V at *
          have S1 := S1x
          clear hVV S0 S1x d0 d1 d2 d3 d4 d5 d6 d7 d8 d9
          obtain ⟨d0, d1, d2, d3, d4, d5, d6, d7, d8, d9⟩ := S1.out.at hij
          have ez : t.ty = y := by rw [ht]
          rw [ez] at d1
          clear ht ez
          go_upto_region 34 with fail
          have hok := rules_prs (K := j) hij htok
          rw [hrb] at hok
          have MA := hide (made_any _ j c (rlL j i t) V (S1.out.rh htok) (by omega))
          unfold hdV at MA
          have hl := rlL_len j i t
          clear d0 d1 d2 d3 d4 d5 d6 d7 d8 d9
          go_wp2_with fail
          refine MA.out.mono ?_
          rintro e W2 ⟨v2, rfl, o2, b2⟩
          obtain ⟨ln, hln⟩ : ∃ ln, 80 + 64 * (j + 2) = ln := ⟨_, rfl⟩
          obtain ⟨L, hL⟩ : ∃ L, mdB (rlL j i t) = L := ⟨_, rfl⟩
          have hbL : Bytes L := by rw [← hL]; exact mdB_bytes _
          rw [hL] at hok
          rw [hln, hL] at o2
          have ln0 : 65 ≤ ln := by omega
          have ln1 : ln ≤ 2000 := by omega
          obtain ⟨a2, k2, hv2, r2⟩ := Rd.own o2 hbL
          subst hv2
          have zS := S1.out.bel.size
          have B2 := hide (S1.out.bel.trans (b2.mono zS))
          have z2 := B2.out.size
          have R2 := hide r2
          obtain ⟨N, hN⟩ : ∃ N, j + 2 = N := ⟨_, rfl⟩
          obtain ⟨M, hM⟩ : ∃ M, j + 1 = M := ⟨_, rfl⟩
          rw [hN, hM] at hok ⊢
          have hNj : (j : Int) + 2 = (N : Int) := by omega
          have hNb : N ≤ 14 := by omega
          have hNa : 1 ≤ N := by omega
          have hMb : M ≤ 14 := by omega
          have HOK := hide hok
          clear o2 b2 MA hL hln hN hM r2 hbL zS hok hrb htok S1
          have b3 := (Below.refl W2.heap.size W2).alloc (Nat.le_refl _) (.cells #[.int .u64 80, .int .i64 (N : Int), .int .i64 (M : Int)] 27)
          have X3 := hide (HdB.new W2 80 (N : Int) (M : Int))
          have B3 := hide (B2.out.trans (b3.mono z2))
          have R3 := hide (R2.out.below b3)
          go_upto_region 35 with fail
          obtain ⟨Y, hY⟩ : ∃ Y, W2.heap.size = Y := ⟨_, rfl⟩
          obtain ⟨V3, hV3⟩ : ∃ V3, W2.alloc (.cells #[.int .u64 80, .int .i64 (N : Int), .int .i64 (M : Int)] 27) = V3 := ⟨_, rfl⟩
          rw [hV3] at X3 B3 R3 ⊢
          rw [hY] at X3 ⊢
          have hYV := (Array.getElem?_eq_some_iff.1 X3.out).1
          have z3 := B3.out.size
          clear hV3 hY b3 B2 z2 R2
          have P1 := hide (parse11_any _ ln k2 L 80 (N : Int) (M : Int) V3 R3.out (by omega) (by omega) (by omega) (by omega) (by omega) (by omega) (by omega))
          unfold hdV at P1
          have P2 := hide (fun W (hW : Below V3.heap.size V3 W) => rshdrs_any _ ln k2 L 80 (M : Int) N W (R3.out.below hW) (by omega) (by omega) (by omega) (by omega) (by omega) (by omega) (by omega))
          unfold hdV at P2
          obtain ⟨x0, x1, x2, _, _, _⟩ := X3.out.at
          go_wp2_with fail
          refine P1.out.mono ?_
          rintro e W5 ⟨hp, b5⟩
          obtain ⟨a1, c1, a1', c1', rfl⟩ : ∃ a c a2 c2, e = .returned (.tuple #[.slice a N c, .slice a2 N c2, .int .i64 0]) := by
            rcases hp with ⟨_, a, c, a2, c2, he, _, _⟩ | ⟨h1, _⟩
            · exact ⟨a, c, a2, c2, he⟩
            · exact absurd (HOK.out.2 (by first | trivial | rfl)) h1
          have B5 := hide (B3.out.trans (b5.mono z3))
          have z5 := B5.out.size
          have P3 := hide (P2.out W5 b5)
          have X5 := hide (X3.out.below hYV b5)
          clear hp b5 P1 P2 x0 x1 x2 X3 B3 R3
          obtain ⟨x0, x1, x2, _, _, _⟩ := X5.out.at
          go_wp2_with fail
          refine P3.out.mono ?_
          rintro e W6 ⟨hp, b6⟩
          obtain ⟨a6, c6, a6', c6', rfl⟩ : ∃ a c a2 c2, e = .returned (.tuple #[.slice a N c, .slice a2 N c2, .int .i64 0]) := by
            rcases hp with ⟨_, a, c, a2, c2, he, _, _⟩ | ⟨h1, _⟩
            · exact ⟨a, c, a2, c2, he⟩
            · exact absurd (HOK.out.2 (by first | trivial | rfl)) h1
          have B6 := hide (B5.out.trans (b6.mono z5))
          clear hp b6 P3 x0 x1 x2 X5 B5 HOK
          go_wp2
          go_ret
          exact ⟨rfl, B6.out⟩
        have n1 : ((y : Int) == 1) = false := by simp; omega
        have n2 : ((y : Int) == 2) = false := by simp; omega
        have n3 : ((y : Int) == 3) = false := by simp; omega
        have n4 : ((y : Int) == 4) = false := by simp; omega
        have n8 : ((y : Int) == 8) = false := by simp; omega
        have n17 : ((y : Int) == 17) = false := by simp; omega
        obtain ⟨t, ht⟩ : ∃ t : Sh, t = ⟨1, y, 2, 0, 64, 8, 0, 0, 8, 0⟩ := ⟨_, rfl⟩
        have htok : t.Ok := by rw [ht]; exact ⟨by simp only []; omega, by simp only []; omega, by simp only []; omega, by simp only []; omega, by simp only []; omega, by simp only []; omega, by simp only []; omega, by simp only []; omega, by simp only []; omega, by simp only []; omega⟩
        have hrb : (rtB t 1 (80 + 64 * (j + 2)) && decide (t.nm < 7)) = false := by
          have e1 : knB (y) = false := by unfold knB; exact decide_eq_false (by omega)
          have e2 : flB (2) = true := flB_two
          have e3 : decide ((0 : Nat) = 0) = true := rfl
          have e4 : alB (8) = true := alB_eight
          have e5 : hlB ⟨1, y, 2, 0, 64, 8, 0, 0, 8, 0⟩ (80 + 64 * (j + 2)) = true := by unfold hlB; simp only []; rw [if_neg (by omega)]; exact decide_eq_true (by omega)
          have e6 : decide ((1 : Nat) < 7) = true := rfl
          rw [ht, rt_one]
          show (knB (y) && flB (2) && decide ((0 : Nat) = 0) && alB (8) && hlB ⟨1, y, 2, 0, 64, 8, 0, 0, 8, 0⟩ (80 + 64 * (j + 2)) && decide ((1 : Nat) < 7)) = false
          rw [e1, e2, e3, e4, e5, e6]
          rfl
        clear y1 y2 y3 y4 y8 y17
        have S1x : Hid (RlS w (wr.setCell ⟨g, i * 10 + 1, none⟩ (.int .u32 (y : Int))) g j c i t) := S0.out.set hij 1 (.int .u32 (y : Int)) (by decide) (by rw [ht]; rfl)
        have fz1 := ff (i * 10 + 1)
        clear ff
        go_upto_region 14 with fail
        generalize hVV : (wr.setCell ⟨g, i * 10 + 1, none⟩ (.int .u32 (y : Int))) = V at *
        have S1 := S1x
        clear hVV S0 S1x d0 d1 d2 d3 d4 d5 d6 d7 d8 d9
        obtain ⟨d0, d1, d2, d3, d4, d5, d6, d7, d8, d9⟩ := S1.out.at hij
        have ez : t.ty = y := by rw [ht]
        rw [ez] at d1
        clear ht ez
        go_upto_region 34 with fail
        have hok := rules_prs (K := j) hij htok
        rw [hrb] at hok
        have MA := hide (made_any _ j c (rlL j i t) V (S1.out.rh htok) (by omega))
        unfold hdV at MA
        have hl := rlL_len j i t
        clear d0 d1 d2 d3 d4 d5 d6 d7 d8 d9
        go_wp2_with fail
        refine MA.out.mono ?_
        rintro e W2 ⟨v2, rfl, o2, b2⟩
        obtain ⟨ln, hln⟩ : ∃ ln, 80 + 64 * (j + 2) = ln := ⟨_, rfl⟩
        obtain ⟨L, hL⟩ : ∃ L, mdB (rlL j i t) = L := ⟨_, rfl⟩
        have hbL : Bytes L := by rw [← hL]; exact mdB_bytes _
        rw [hL] at hok
        rw [hln, hL] at o2
        have ln0 : 65 ≤ ln := by omega
        have ln1 : ln ≤ 2000 := by omega
        obtain ⟨a2, k2, hv2, r2⟩ := Rd.own o2 hbL
        subst hv2
        have zS := S1.out.bel.size
        have B2 := hide (S1.out.bel.trans (b2.mono zS))
        have z2 := B2.out.size
        have R2 := hide r2
        obtain ⟨N, hN⟩ : ∃ N, j + 2 = N := ⟨_, rfl⟩
        obtain ⟨M, hM⟩ : ∃ M, j + 1 = M := ⟨_, rfl⟩
        rw [hN, hM] at hok ⊢
        have hNj : (j : Int) + 2 = (N : Int) := by omega
        have hNb : N ≤ 14 := by omega
        have hNa : 1 ≤ N := by omega
        have hMb : M ≤ 14 := by omega
        have HOK := hide hok
        clear o2 b2 MA hL hln hN hM r2 hbL zS hok hrb htok S1
        have b3 := (Below.refl W2.heap.size W2).alloc (Nat.le_refl _) (.cells #[.int .u64 80, .int .i64 (N : Int), .int .i64 (M : Int)] 27)
        have X3 := hide (HdB.new W2 80 (N : Int) (M : Int))
        have B3 := hide (B2.out.trans (b3.mono z2))
        have R3 := hide (R2.out.below b3)
        go_upto_region 35 with fail
        obtain ⟨Y, hY⟩ : ∃ Y, W2.heap.size = Y := ⟨_, rfl⟩
        obtain ⟨V3, hV3⟩ : ∃ V3, W2.alloc (.cells #[.int .u64 80, .int .i64 (N : Int), .int .i64 (M : Int)] 27) = V3 := ⟨_, rfl⟩
        rw [hV3] at X3 B3 R3 ⊢
        rw [hY] at X3 ⊢
        have hYV := (Array.getElem?_eq_some_iff.1 X3.out).1
        have z3 := B3.out.size
        clear hV3 hY b3 B2 z2 R2
        have P1 := hide (parse11_any _ ln k2 L 80 (N : Int) (M : Int) V3 R3.out (by omega) (by omega) (by omega) (by omega) (by omega) (by omega) (by omega))
        unfold hdV at P1
        have P2 := hide (fun W (hW : Below V3.heap.size V3 W) => rshdrs_any _ ln k2 L 80 (M : Int) N W (R3.out.below hW) (by omega) (by omega) (by omega) (by omega) (by omega) (by omega) (by omega))
        unfold hdV at P2
        obtain ⟨x0, x1, x2, _, _, _⟩ := X3.out.at
        go_wp2_with fail
        refine P1.out.mono ?_
        rintro e W5 ⟨hp, b5⟩
        obtain rfl : e = .returned (.tuple #[.slice none 0 0, .slice none 0 0, .int .i64 31]) := by
          rcases hp with ⟨h1, _⟩ | ⟨_, he⟩
          · exact absurd (HOK.out.1 h1) (by decide)
          · exact he
        have B5 := hide (B3.out.trans (b5.mono z3))
        have z5 := B5.out.size
        have P3 := hide (P2.out W5 b5)
        have X5 := hide (X3.out.below hYV b5)
        clear hp b5 P1 P2 x0 x1 x2 X3 B3 R3
        obtain ⟨x0, x1, x2, _, _, _⟩ := X5.out.at
        go_wp2_with fail
        refine P3.out.mono ?_
        rintro e W6 ⟨hp, b6⟩
        obtain rfl : e = .returned (.tuple #[.slice none 0 0, .slice none 0 0, .int .i64 31]) := by
          rcases hp with ⟨h1, _⟩ | ⟨_, he⟩
          · exact absurd (HOK.out.1 h1) (by decide)
          · exact he
        have B6 := hide (B5.out.trans (b6.mono z5))
        clear hp b6 P3 x0 x1 x2 X5 B5 HOK
        go_wp2
        go_ret
        exact ⟨rfl, B6.out⟩
      · by_cases hq7 : flB v = true
        · have u1 : (bits .andNot .u64 (v : Int) 631 == 0) = true := hq7
          obtain ⟨t, ht⟩ : ∃ t : Sh, t = ⟨1, 1, v, 0, 64, 8, 0, 0, 8, 0⟩ := ⟨_, rfl⟩
          have htok : t.Ok := by rw [ht]; exact ⟨by simp only []; omega, by simp only []; omega, by simp only []; omega, by simp only []; omega, by simp only []; omega, by simp only []; omega, by simp only []; omega, by simp only []; omega, by simp only []; omega, by simp only []; omega⟩
          have hrb : (rtB t 1 (80 + 64 * (j + 2)) && decide (t.nm < 7)) = true := by
            have e1 : knB (1) = true := knB_one
            have e2 : flB (v) = true := hq7
            have e3 : decide ((0 : Nat) = 0) = true := rfl
            have e4 : alB (8) = true := alB_eight
            have e5 : hlB ⟨1, 1, v, 0, 64, 8, 0, 0, 8, 0⟩ (80 + 64 * (j + 2)) = true := by unfold hlB; simp only []; rw [if_neg (by decide)]; exact decide_eq_true (by omega)
            have e6 : decide ((1 : Nat) < 7) = true := rfl
            rw [ht, rt_one]
            show (knB (1) && flB (v) && decide ((0 : Nat) = 0) && alB (8) && hlB ⟨1, 1, v, 0, 64, 8, 0, 0, 8, 0⟩ (80 + 64 * (j + 2)) && decide ((1 : Nat) < 7)) = true
            rw [e1, e2, e3, e4, e5, e6]
            rfl
          clear hq7
          have S1x : Hid (RlS w (wr.setCell ⟨g, i * 10 + 2, none⟩ (.int .u64 (v : Int))) g j c i t) := S0.out.set hij 2 (.int .u64 (v : Int)) (by decide) (by rw [ht]; rfl)
          have fz2 := ff (i * 10 + 2)
          clear ff
          go_upto_region 17 with fail
          generalize hVV : (wr.setCell ⟨g, i * 10 + 2, none⟩ (.int .u64 (v : Int))) = V at *
          have S1 := S1x
          clear hVV S0 S1x d0 d1 d2 d3 d4 d5 d6 d7 d8 d9
          obtain ⟨d0, d1, d2, d3, d4, d5, d6, d7, d8, d9⟩ := S1.out.at hij
          have ez : t.fl = v := by rw [ht]
          rw [ez] at d2
          clear ht ez
          go_upto_region 34 with fail
          have hok := rules_prs (K := j) hij htok
          rw [hrb] at hok
          have MA := hide (made_any _ j c (rlL j i t) V (S1.out.rh htok) (by omega))
          unfold hdV at MA
          have hl := rlL_len j i t
          clear d0 d1 d2 d3 d4 d5 d6 d7 d8 d9
          go_wp2_with fail
          refine MA.out.mono ?_
          rintro e W2 ⟨v2, rfl, o2, b2⟩
          obtain ⟨ln, hln⟩ : ∃ ln, 80 + 64 * (j + 2) = ln := ⟨_, rfl⟩
          obtain ⟨L, hL⟩ : ∃ L, mdB (rlL j i t) = L := ⟨_, rfl⟩
          have hbL : Bytes L := by rw [← hL]; exact mdB_bytes _
          rw [hL] at hok
          rw [hln, hL] at o2
          have ln0 : 65 ≤ ln := by omega
          have ln1 : ln ≤ 2000 := by omega
          obtain ⟨a2, k2, hv2, r2⟩ := Rd.own o2 hbL
          subst hv2
          have zS := S1.out.bel.size
          have B2 := hide (S1.out.bel.trans (b2.mono zS))
          have z2 := B2.out.size
          have R2 := hide r2
          obtain ⟨N, hN⟩ : ∃ N, j + 2 = N := ⟨_, rfl⟩
          obtain ⟨M, hM⟩ : ∃ M, j + 1 = M := ⟨_, rfl⟩
          rw [hN, hM] at hok ⊢
          have hNj : (j : Int) + 2 = (N : Int) := by omega
          have hNb : N ≤ 14 := by omega
          have hNa : 1 ≤ N := by omega
          have hMb : M ≤ 14 := by omega
          have HOK := hide hok
          clear o2 b2 MA hL hln hN hM r2 hbL zS hok hrb htok S1
          have b3 := (Below.refl W2.heap.size W2).alloc (Nat.le_refl _) (.cells #[.int .u64 80, .int .i64 (N : Int), .int .i64 (M : Int)] 27)
          have X3 := hide (HdB.new W2 80 (N : Int) (M : Int))
          have B3 := hide (B2.out.trans (b3.mono z2))
          have R3 := hide (R2.out.below b3)
          go_upto_region 35 with fail
          obtain ⟨Y, hY⟩ : ∃ Y, W2.heap.size = Y := ⟨_, rfl⟩
          obtain ⟨V3, hV3⟩ : ∃ V3, W2.alloc (.cells #[.int .u64 80, .int .i64 (N : Int), .int .i64 (M : Int)] 27) = V3 := ⟨_, rfl⟩
          rw [hV3] at X3 B3 R3 ⊢
          rw [hY] at X3 ⊢
          have hYV := (Array.getElem?_eq_some_iff.1 X3.out).1
          have z3 := B3.out.size
          clear hV3 hY b3 B2 z2 R2
          have P1 := hide (parse11_any _ ln k2 L 80 (N : Int) (M : Int) V3 R3.out (by omega) (by omega) (by omega) (by omega) (by omega) (by omega) (by omega))
          unfold hdV at P1
          have P2 := hide (fun W (hW : Below V3.heap.size V3 W) => rshdrs_any _ ln k2 L 80 (M : Int) N W (R3.out.below hW) (by omega) (by omega) (by omega) (by omega) (by omega) (by omega) (by omega))
          unfold hdV at P2
          obtain ⟨x0, x1, x2, _, _, _⟩ := X3.out.at
          go_wp2_with fail
          refine P1.out.mono ?_
          rintro e W5 ⟨hp, b5⟩
          obtain ⟨a1, c1, a1', c1', rfl⟩ : ∃ a c a2 c2, e = .returned (.tuple #[.slice a N c, .slice a2 N c2, .int .i64 0]) := by
            rcases hp with ⟨_, a, c, a2, c2, he, _, _⟩ | ⟨h1, _⟩
            · exact ⟨a, c, a2, c2, he⟩
            · exact absurd (HOK.out.2 (by first | trivial | rfl)) h1
          have B5 := hide (B3.out.trans (b5.mono z3))
          have z5 := B5.out.size
          have P3 := hide (P2.out W5 b5)
          have X5 := hide (X3.out.below hYV b5)
          clear hp b5 P1 P2 x0 x1 x2 X3 B3 R3
          obtain ⟨x0, x1, x2, _, _, _⟩ := X5.out.at
          go_wp2_with fail
          refine P3.out.mono ?_
          rintro e W6 ⟨hp, b6⟩
          obtain ⟨a6, c6, a6', c6', rfl⟩ : ∃ a c a2 c2, e = .returned (.tuple #[.slice a N c, .slice a2 N c2, .int .i64 0]) := by
            rcases hp with ⟨_, a, c, a2, c2, he, _, _⟩ | ⟨h1, _⟩
            · exact ⟨a, c, a2, c2, he⟩
            · exact absurd (HOK.out.2 (by first | trivial | rfl)) h1
          have B6 := hide (B5.out.trans (b6.mono z5))
          clear hp b6 P3 x0 x1 x2 X5 B5 HOK
          go_wp2
          go_ret
          exact ⟨rfl, B6.out⟩
        · have u1 : (bits .andNot .u64 (v : Int) 631 == 0) = false := by have h9 : flB v = false := by simpa using hq7
                                                                         exact h9
          obtain ⟨t, ht⟩ : ∃ t : Sh, t = ⟨1, 1, v, 0, 64, 8, 0, 0, 8, 0⟩ := ⟨_, rfl⟩
          have htok : t.Ok := by rw [ht]; exact ⟨by simp only []; omega, by simp only []; omega, by simp only []; omega, by simp only []; omega, by simp only []; omega, by simp only []; omega, by simp only []; omega, by simp only []; omega, by simp only []; omega, by simp only []; omega⟩
          have hrb : (rtB t 1 (80 + 64 * (j + 2)) && decide (t.nm < 7)) = false := by
            have e1 : knB (1) = true := knB_one
            have e2 : flB (v) = false := by simpa using hq7
            have e3 : decide ((0 : Nat) = 0) = true := rfl
            have e4 : alB (8) = true := alB_eight
            have e5 : hlB ⟨1, 1, v, 0, 64, 8, 0, 0, 8, 0⟩ (80 + 64 * (j + 2)) = true := by unfold hlB; simp only []; rw [if_neg (by decide)]; exact decide_eq_true (by omega)
            have e6 : decide ((1 : Nat) < 7) = true := rfl
            rw [ht, rt_one]
            show (knB (1) && flB (v) && decide ((0 : Nat) = 0) && alB (8) && hlB ⟨1, 1, v, 0, 64, 8, 0, 0, 8, 0⟩ (80 + 64 * (j + 2)) && decide ((1 : Nat) < 7)) = false
            rw [e1, e2, e3, e4, e5, e6]
            rfl
          clear hq7
          have S1x : Hid (RlS w (wr.setCell ⟨g, i * 10 + 2, none⟩ (.int .u64 (v : Int))) g j c i t) := S0.out.set hij 2 (.int .u64 (v : Int)) (by decide) (by rw [ht]; rfl)
          have fz2 := ff (i * 10 + 2)
          clear ff
          go_upto_region 17 with fail
          generalize hVV : (wr.setCell ⟨g, i * 10 + 2, none⟩ (.int .u64 (v : Int))) = V at *
          have S1 := S1x
          clear hVV S0 S1x d0 d1 d2 d3 d4 d5 d6 d7 d8 d9
          obtain ⟨d0, d1, d2, d3, d4, d5, d6, d7, d8, d9⟩ := S1.out.at hij
          have ez : t.fl = v := by rw [ht]
          rw [ez] at d2
          clear ht ez
          go_upto_region 34 with fail
          have hok := rules_prs (K := j) hij htok
          rw [hrb] at hok
          have MA := hide (made_any _ j c (rlL j i t) V (S1.out.rh htok) (by omega))
          unfold hdV at MA
          have hl := rlL_len j i t
          clear d0 d1 d2 d3 d4 d5 d6 d7 d8 d9
          go_wp2_with fail
          refine MA.out.mono ?_
          rintro e W2 ⟨v2, rfl, o2, b2⟩
          obtain ⟨ln, hln⟩ : ∃ ln, 80 + 64 * (j + 2) = ln := ⟨_, rfl⟩
          obtain ⟨L, hL⟩ : ∃ L, mdB (rlL j i t) = L := ⟨_, rfl⟩
          have hbL : Bytes L := by rw [← hL]; exact mdB_bytes _
          rw [hL] at hok
          rw [hln, hL] at o2
          have ln0 : 65 ≤ ln := by omega
          have ln1 : ln ≤ 2000 := by omega
          obtain ⟨a2, k2, hv2, r2⟩ := Rd.own o2 hbL
          subst hv2
          have zS := S1.out.bel.size
          have B2 := hide (S1.out.bel.trans (b2.mono zS))
          have z2 := B2.out.size
          have R2 := hide r2
          obtain ⟨N, hN⟩ : ∃ N, j + 2 = N := ⟨_, rfl⟩
          obtain ⟨M, hM⟩ : ∃ M, j + 1 = M := ⟨_, rfl⟩
          rw [hN, hM] at hok ⊢
          have hNj : (j : Int) + 2 = (N : Int) := by omega
          have hNb : N ≤ 14 := by omega
          have hNa : 1 ≤ N := by omega
          have hMb : M ≤ 14 := by omega
          have HOK := hide hok
          clear o2 b2 MA hL hln hN hM r2 hbL zS hok hrb htok S1
          have b3 := (Below.refl W2.heap.size W2).alloc (Nat.le_refl _) (.cells #[.int .u64 80, .int .i64 (N : Int), .int .i64 (M : Int)] 27)
          have X3 := hide (HdB.new W2 80 (N : Int) (M : Int))
          have B3 := hide (B2.out.trans (b3.mono z2))
          have R3 := hide (R2.out.below b3)
          go_upto_region 35 with fail
          obtain ⟨Y, hY⟩ : ∃ Y, W2.heap.size = Y := ⟨_, rfl⟩
          obtain ⟨V3, hV3⟩ : ∃ V3, W2.alloc (.cells #[.int .u64 80, .int .i64 (N : Int), .int .i64 (M : Int)] 27) = V3 := ⟨_, rfl⟩
          rw [hV3] at X3 B3 R3 ⊢
          rw [hY] at X3 ⊢
          have hYV := (Array.getElem?_eq_some_iff.1 X3.out).1
          have z3 := B3.out.size
          clear hV3 hY b3 B2 z2 R2
          have P1 := hide (parse11_any _ ln k2 L 80 (N : Int) (M : Int) V3 R3.out (by omega) (by omega) (by omega) (by omega) (by omega) (by omega) (by omega))
          unfold hdV at P1
          have P2 := hide (fun W (hW : Below V3.heap.size V3 W) => rshdrs_any _ ln k2 L 80 (M : Int) N W (R3.out.below hW) (by omega) (by omega) (by omega) (by omega) (by omega) (by omega) (by omega))
          unfold hdV at P2
          obtain ⟨x0, x1, x2, _, _, _⟩ := X3.out.at
          go_wp2_with fail
          refine P1.out.mono ?_
          rintro e W5 ⟨hp, b5⟩
          obtain rfl : e = .returned (.tuple #[.slice none 0 0, .slice none 0 0, .int .i64 31]) := by
            rcases hp with ⟨h1, _⟩ | ⟨_, he⟩
            · exact absurd (HOK.out.1 h1) (by decide)
            · exact he
          have B5 := hide (B3.out.trans (b5.mono z3))
          have z5 := B5.out.size
          have P3 := hide (P2.out W5 b5)
          have X5 := hide (X3.out.below hYV b5)
          clear hp b5 P1 P2 x0 x1 x2 X3 B3 R3
          obtain ⟨x0, x1, x2, _, _, _⟩ := X5.out.at
          go_wp2_with fail
          refine P3.out.mono ?_
          rintro e W6 ⟨hp, b6⟩
          obtain rfl : e = .returned (.tuple #[.slice none 0 0, .slice none 0 0, .int .i64 31]) := by
            rcases hp with ⟨h1, _⟩ | ⟨_, he⟩
            · exact absurd (HOK.out.1 h1) (by decide)
            · exact he
          have B6 := hide (B5.out.trans (b6.mono z5))
          clear hp b6 P3 x0 x1 x2 X5 B5 HOK
          go_wp2
          go_ret
          exact ⟨rfl, B6.out⟩
      · by_cases hq7 : v = 0
        · have u1 : ((v : Int) == 0) = true := by simp; omega
          obtain ⟨t, ht⟩ : ∃ t : Sh, t = ⟨1, 1, 2, v, 64, 8, 0, 0, 8, 0⟩ := ⟨_, rfl⟩
          have htok : t.Ok := by rw [ht]; exact ⟨by simp only []; omega, by simp only []; omega, by simp only []; omega, by simp only []; omega, by simp only []; omega, by simp only []; omega, by simp only []; omega, by simp only []; omega, by simp only []; omega, by simp only []; omega⟩
          have hrb : (rtB t 1 (80 + 64 * (j + 2)) && decide (t.nm < 7)) = true := by
            have e1 : knB (1) = true := knB_one
            have e2 : flB (2) = true := flB_two
            have e3 : decide ((v : Nat) = 0) = true := decide_eq_true hq7
            have e4 : alB (8) = true := alB_eight
            have e5 : hlB ⟨1, 1, 2, v, 64, 8, 0, 0, 8, 0⟩ (80 + 64 * (j + 2)) = true := by unfold hlB; simp only []; rw [if_neg (by decide)]; exact decide_eq_true (by omega)
            have e6 : decide ((1 : Nat) < 7) = true := rfl
            rw [ht, rt_one]
            show (knB (1) && flB (2) && decide ((v : Nat) = 0) && alB (8) && hlB ⟨1, 1, 2, v, 64, 8, 0, 0, 8, 0⟩ (80 + 64 * (j + 2)) && decide ((1 : Nat) < 7)) = true
            rw [e1, e2, e3, e4, e5, e6]
            rfl
          clear hq7
          have S1x : Hid (RlS w (wr.setCell ⟨g, i * 10 + 3, none⟩ (.int .u64 (v : Int))) g j c i t) := S0.out.set hij 3 (.int .u64 (v : Int)) (by decide) (by rw [ht]; rfl)
          have fz3 := ff (i * 10 + 3)
          clear ff
          go_upto_region 20 with fail
          generalize hVV : (wr.setCell ⟨g, i * 10 + 3, none⟩ (.int .u64 (v : Int))) = V at *
          have S1 := S1x
          clear hVV S0 S1x d0 d1 d2 d3 d4 d5 d6 d7 d8 d9
          obtain ⟨d0, d1, d2, d3, d4, d5, d6, d7, d8, d9⟩ := S1.out.at hij
          have ez : t.ad = v := by rw [ht]
          rw [ez] at d3
          clear ht ez
          go_upto_region 34 with fail
          have hok := rules_prs (K := j) hij htok
          rw [hrb] at hok
          have MA := hide (made_any _ j c (rlL j i t) V (S1.out.rh htok) (by omega))
          unfold hdV at MA
          have hl := rlL_len j i t
          clear d0 d1 d2 d3 d4 d5 d6 d7 d8 d9
          go_wp2_with fail
          refine MA.out.mono ?_
          rintro e W2 ⟨v2, rfl, o2, b2⟩
          obtain ⟨ln, hln⟩ : ∃ ln, 80 + 64 * (j + 2) = ln := ⟨_, rfl⟩
          obtain ⟨L, hL⟩ : ∃ L, mdB (rlL j i t) = L := ⟨_, rfl⟩
          have hbL : Bytes L := by rw [← hL]; exact mdB_bytes _
          rw [hL] at hok
          rw [hln, hL] at o2
          have ln0 : 65 ≤ ln := by omega
          have ln1 : ln ≤ 2000 := by omega
          obtain ⟨a2, k2, hv2, r2⟩ := Rd.own o2 hbL
          subst hv2
          have zS := S1.out.bel.size
          have B2 := hide (S1.out.bel.trans (b2.mono zS))
          have z2 := B2.out.size
          have R2 := hide r2
          obtain ⟨N, hN⟩ : ∃ N, j + 2 = N := ⟨_, rfl⟩
          obtain ⟨M, hM⟩ : ∃ M, j + 1 = M := ⟨_, rfl⟩
          rw [hN, hM] at hok ⊢
          have hNj : (j : Int) + 2 = (N : Int) := by omega
          have hNb : N ≤ 14 := by omega
          have hNa : 1 ≤ N := by omega
          have hMb : M ≤ 14 := by omega
          have HOK := hide hok
          clear o2 b2 MA hL hln hN hM r2 hbL zS hok hrb htok S1
          have b3 := (Below.refl W2.heap.size W2).alloc (Nat.le_refl _) (.cells #[.int .u64 80, .int .i64 (N : Int), .int .i64 (M : Int)] 27)
          have X3 := hide (HdB.new W2 80 (N : Int) (M : Int))
          have B3 := hide (B2.out.trans (b3.mono z2))
          have R3 := hide (R2.out.below b3)
          go_upto_region 35 with fail
          obtain ⟨Y, hY⟩ : ∃ Y, W2.heap.size = Y := ⟨_, rfl⟩
          obtain ⟨V3, hV3⟩ : ∃ V3, W2.alloc (.cells #[.int .u64 80, .int .i64 (N : Int), .int .i64 (M : Int)] 27) = V3 := ⟨_, rfl⟩
          rw [hV3] at X3 B3 R3 ⊢
          rw [hY] at X3 ⊢
          have hYV := (Array.getElem?_eq_some_iff.1 X3.out).1
          have z3 := B3.out.size
          clear hV3 hY b3 B2 z2 R2
          have P1 := hide (parse11_any _ ln k2 L 80 (N : Int) (M : Int) V3 R3.out (by omega) (by omega) (by omega) (by omega) (by omega) (by omega) (by omega))
          unfold hdV at P1
          have P2 := hide (fun W (hW : Below V3.heap.size V3 W) => rshdrs_any _ ln k2 L 80 (M : Int) N W (R3.out.below hW) (by omega) (by omega) (by omega) (by omega) (by omega) (by omega) (by omega))
          unfold hdV at P2
          obtain ⟨x0, x1, x2, _, _, _⟩ := X3.out.at
          go_wp2_with fail
          refine P1.out.mono ?_
          rintro e W5 ⟨hp, b5⟩
          obtain ⟨a1, c1, a1', c1', rfl⟩ : ∃ a c a2 c2, e = .returned (.tuple #[.slice a N c, .slice a2 N c2, .int .i64 0]) := by
            rcases hp with ⟨_, a, c, a2, c2, he, _, _⟩ | ⟨h1, _⟩
            · exact ⟨a, c, a2, c2, he⟩
            · exact absurd (HOK.out.2 (by first | trivial | rfl)) h1
          have B5 := hide (B3.out.trans (b5.mono z3))
          have z5 := B5.out.size
          have P3 := hide (P2.out W5 b5)
          have X5 := hide (X3.out.below hYV b5)
          clear hp b5 P1 P2 x0 x1 x2 X3 B3 R3
          obtain ⟨x0, x1, x2, _, _, _⟩ := X5.out.at
          go_wp2_with fail
          refine P3.out.mono ?_
          rintro e W6 ⟨hp, b6⟩
          obtain ⟨a6, c6, a6', c6', rfl⟩ : ∃ a c a2 c2, e = .returned (.tuple #[.slice a N c, .slice a2 N c2, .int .i64 0]) := by
            rcases hp with ⟨_, a, c, a2, c2, he, _, _⟩ | ⟨h1, _⟩
            · exact ⟨a, c, a2, c2, he⟩
            · exact absurd (HOK.out.2 (by first | trivial | rfl)) h1
          have B6 := hide (B5.out.trans (b6.mono z5))
          clear hp b6 P3 x0 x1 x2 X5 B5 HOK
          go_wp2
          go_ret
          exact ⟨rfl, B6.out⟩
        · have u1 : ((v : Int) == 0) = false := by simp; omega
          obtain ⟨t, ht⟩ : ∃ t : Sh, t = ⟨1, 1, 2, v, 64, 8, 0, 0, 8, 0⟩ := ⟨_, rfl⟩
          have htok : t.Ok := by rw [ht]; exact ⟨by simp only []; omega, by simp only []; omega, by simp only []; omega, by simp only []; omega, by simp only []; omega, by simp only []; omega, by simp only []; omega, by simp only []; omega, by simp only []; omega, by simp only []; omega⟩
          have hrb : (rtB t 1 (80 + 64 * (j + 2)) && decide (t.nm < 7)) = false := by
            have e1 : knB (1) = true := knB_one
            have e2 : flB (2) = true := flB_two
            have e3 : decide ((v : Nat) = 0) = false := decide_eq_false hq7
            have e4 : alB (8) = true := alB_eight
            have e5 : hlB ⟨1, 1, 2, v, 64, 8, 0, 0, 8, 0⟩ (80 + 64 * (j + 2)) = true := by unfold hlB; simp only []; rw [if_neg (by decide)]; exact decide_eq_true (by omega)
            have e6 : decide ((1 : Nat) < 7) = true := rfl
            rw [ht, rt_one]
            show (knB (1) && flB (2) && decide ((v : Nat) = 0) && alB (8) && hlB ⟨1, 1, 2, v, 64, 8, 0, 0, 8, 0⟩ (80 + 64 * (j + 2)) && decide ((1 : Nat) < 7)) = false
            rw [e1, e2, e3, e4, e5, e6]
            rfl
          clear hq7
          have S1x : Hid (RlS w (wr.setCell ⟨g, i * 10 + 3, none⟩ (.int .u64 (v : Int))) g j c i t) := S0.out.set hij 3 (.int .u64 (v : Int)) (by decide) (by rw [ht]; rfl)
          have fz3 := ff (i * 10 + 3)
          clear ff
          go_upto_region 20 with fail
          generalize hVV : (wr.setCell ⟨g, i * 10 + 3, none⟩ (.int .u64 (v : Int))) = V at *
          have S1 := S1x
          clear hVV S0 S1x d0 d1 d2 d3 d4 d5 d6 d7 d8 d9
          obtain ⟨d0, d1, d2, d3, d4, d5, d6, d7, d8, d9⟩ := S1.out.at hij
          have ez : t.ad = v := by rw [ht]
          rw [ez] at d3
          clear ht ez
          go_upto_region 34 with fail
          have hok := rules_prs (K := j) hij htok
          rw [hrb] at hok
          have MA := hide (made_any _ j c (rlL j i t) V (S1.out.rh htok) (by omega))
          unfold hdV at MA
          have hl := rlL_len j i t
          clear d0 d1 d2 d3 d4 d5 d6 d7 d8 d9
          go_wp2_with fail
          refine MA.out.mono ?_
          rintro e W2 ⟨v2, rfl, o2, b2⟩
          obtain ⟨ln, hln⟩ : ∃ ln, 80 + 64 * (j + 2) = ln := ⟨_, rfl⟩
          obtain ⟨L, hL⟩ : ∃ L, mdB (rlL j i t) = L := ⟨_, rfl⟩
          have hbL : Bytes L := by rw [← hL]; exact mdB_bytes _
          rw [hL] at hok
          rw [hln, hL] at o2
          have ln0 : 65 ≤ ln := by omega
          have ln1 : ln ≤ 2000 := by omega
          obtain ⟨a2, k2, hv2, r2⟩ := Rd.own o2 hbL
          subst hv2
          have zS := S1.out.bel.size
          have B2 := hide (S1.out.bel.trans (b2.mono zS))
          have z2 := B2.out.size
          have R2 := hide r2
          obtain ⟨N, hN⟩ : ∃ N, j + 2 = N := ⟨_, rfl⟩
          obtain ⟨M, hM⟩ : ∃ M, j + 1 = M := ⟨_, rfl⟩
          rw [hN, hM] at hok ⊢
          have hNj : (j : Int) + 2 = (N : Int) := by omega
          have hNb : N ≤ 14 := by omega
          have hNa : 1 ≤ N := by omega
          have hMb : M ≤ 14 := by omega
          have HOK := hide hok
          clear o2 b2 MA hL hln hN hM r2 hbL zS hok hrb htok S1
          have b3 := (Below.refl W2.heap.size W2).alloc (Nat.le_refl _) (.cells #[.int .u64 80, .int .i64 (N : Int), .int .i64 (M : Int)] 27)
          have X3 := hide (HdB.new W2 80 (N : Int) (M : Int))
          have B3 := hide (B2.out.trans (b3.mono z2))
          have R3 := hide (R2.out.below b3)
          go_upto_region 35 with fail
          obtain ⟨Y, hY⟩ : ∃ Y, W2.heap.size = Y := ⟨_, rfl⟩
          obtain ⟨V3, hV3⟩ : ∃ V3, W2.alloc (.cells #[.int .u64 80, .int .i64 (N : Int), .int .i64 (M : Int)] 27) = V3 := ⟨_, rfl⟩
          rw [hV3] at X3 B3 R3 ⊢
          rw [hY] at X3 ⊢
          have hYV := (Array.getElem?_eq_some_iff.1 X3.out).1
          have z3 := B3.out.size
          clear hV3 hY b3 B2 z2 R2
          have P1 := hide (parse11_any _ ln k2 L 80 (N : Int) (M : Int) V3 R3.out (by omega) (by omega) (by omega) (by omega) (by omega) (by omega) (by omega))
          unfold hdV at P1
          have P2 := hide (fun W (hW : Below V3.heap.size V3 W) => rshdrs_any _ ln k2 L 80 (M : Int) N W (R3.out.below hW) (by omega) (by omega) (by omega) (by omega) (by omega) (by omega) (by omega))
          unfold hdV at P2
          obtain ⟨x0, x1, x2, _, _, _⟩ := X3.out.at
          go_wp2_with fail
          refine P1.out.mono ?_
          rintro e W5 ⟨hp, b5⟩
          obtain rfl : e = .returned (.tuple #[.slice none 0 0, .slice none 0 0, .int .i64 31]) := by
            rcases hp with ⟨h1, _⟩ | ⟨_, he⟩
            · exact absurd (HOK.out.1 h1) (by decide)
            · exact he
          have B5 := hide (B3.out.trans (b5.mono z3))
          have z5 := B5.out.size
          have P3 := hide (P2.out W5 b5)
          have X5 := hide (X3.out.below hYV b5)
          clear hp b5 P1 P2 x0 x1 x2 X3 B3 R3
          obtain ⟨x0, x1, x2, _, _, _⟩ := X5.out.at
          go_wp2_with fail
          refine P3.out.mono ?_
          rintro e W6 ⟨hp, b6⟩
          obtain rfl : e = .returned (.tuple #[.slice none 0 0, .slice none 0 0, .int .i64 31]) := by
            rcases hp with ⟨h1, _⟩ | ⟨_, he⟩
            · exact absurd (HOK.out.1 h1) (by decide)
            · exact he
          have B6 := hide (B5.out.trans (b6.mono z5))
          clear hp b6 P3 x0 x1 x2 X5 B5 HOK
          go_wp2
          go_ret
          exact ⟨rfl, B6.out⟩
      · by_cases hq6 : v ≤ 4096
        · by_cases hq7 : v = 0
          · have w0 : IntKind.u64.wrap ((v : Int) - 1) = 18446744073709551615 := by rw [hq7]; decide
            have w1 : (bits .and .u64 (v : Int) 18446744073709551615 == 0) = true := by rw [hq7]; decide
            have w2 : (v : Int) ≤ 4096 := by omega
            obtain ⟨t, ht⟩ : ∃ t : Sh, t = ⟨1, 1, 2, 0, 64, 8, 0, 0, v, 0⟩ := ⟨_, rfl⟩
            have htok : t.Ok := by rw [ht]; exact ⟨by simp only []; omega, by simp only []; omega, by simp only []; omega, by simp only []; omega, by simp only []; omega, by simp only []; omega, by simp only []; omega, by simp only []; omega, by simp only []; omega, by simp only []; omega⟩
            have hrb : (rtB t 1 (80 + 64 * (j + 2)) && decide (t.nm < 7)) = true := by
              have e1 : knB (1) = true := knB_one
              have e2 : flB (2) = true := flB_two
              have e3 : decide ((0 : Nat) = 0) = true := rfl
              have e4 : alB (v) = true := by unfold alB; exact decide_eq_true (.inl hq7)
              have e5 : hlB ⟨1, 1, 2, 0, 64, 8, 0, 0, v, 0⟩ (80 + 64 * (j + 2)) = true := by unfold hlB; simp only []; rw [if_neg (by decide)]; exact decide_eq_true (by omega)
              have e6 : decide ((1 : Nat) < 7) = true := rfl
              rw [ht, rt_one]
              show (knB (1) && flB (2) && decide ((0 : Nat) = 0) && alB (v) && hlB ⟨1, 1, 2, 0, 64, 8, 0, 0, v, 0⟩ (80 + 64 * (j + 2)) && decide ((1 : Nat) < 7)) = true
              rw [e1, e2, e3, e4, e5, e6]
              rfl
            clear hq7 hq6
            have S1x : Hid (RlS w (wr.setCell ⟨g, i * 10 + 8, none⟩ (.int .u64 (v : Int))) g j c i t) := S0.out.set hij 8 (.int .u64 (v : Int)) (by decide) (by rw [ht]; rfl)
            have fz8 := ff (i * 10 + 8)
            clear ff
            go_upto_region 23 with fail
            generalize hVV : (wr.setCell ⟨g, i * 10 + 8, none⟩ (.int .u64 (v : Int))) = V at *
            have S1 := S1x
            clear hVV S0 S1x d0 d1 d2 d3 d4 d5 d6 d7 d8 d9
            obtain ⟨d0, d1, d2, d3, d4, d5, d6, d7, d8, d9⟩ := S1.out.at hij
            have ez : t.al = v := by rw [ht]
            rw [ez] at d8
            clear ht ez
            go_upto_region 34 with fail
            have hok := rules_prs (K := j) hij htok
            rw [hrb] at hok
            have MA := hide (made_any _ j c (rlL j i t) V (S1.out.rh htok) (by omega))
            unfold hdV at MA
            have hl := rlL_len j i t
            clear d0 d1 d2 d3 d4 d5 d6 d7 d8 d9
            go_wp2_with fail
            refine MA.out.mono ?_
            rintro e W2 ⟨v2, rfl, o2, b2⟩
            obtain ⟨ln, hln⟩ : ∃ ln, 80 + 64 * (j + 2) = ln := ⟨_, rfl⟩
            obtain ⟨L, hL⟩ : ∃ L, mdB (rlL j i t) = L := ⟨_, rfl⟩
            have hbL : Bytes L := by rw [← hL]; exact mdB_bytes _
            rw [hL] at hok
            rw [hln, hL] at o2
            have ln0 : 65 ≤ ln := by omega
            have ln1 : ln ≤ 2000 := by omega
            obtain ⟨a2, k2, hv2, r2⟩ := Rd.own o2 hbL
            subst hv2
            have zS := S1.out.bel.size
            have B2 := hide (S1.out.bel.trans (b2.mono zS))
            have z2 := B2.out.size
            have R2 := hide r2
            obtain ⟨N, hN⟩ : ∃ N, j + 2 = N := ⟨_, rfl⟩
            obtain ⟨M, hM⟩ : ∃ M, j + 1 = M := ⟨_, rfl⟩
            rw [hN, hM] at hok ⊢
            have hNj : (j : Int) + 2 = (N : Int) := by omega
            have hNb : N ≤ 14 := by omega
            have hNa : 1 ≤ N := by omega
            have hMb : M ≤ 14 := by omega
            have HOK := hide hok
            clear o2 b2 MA hL hln hN hM r2 hbL zS hok hrb htok S1
            have b3 := (Below.refl W2.heap.size W2).alloc (Nat.le_refl _) (.cells #[.int .u64 80, .int .i64 (N : Int), .int .i64 (M : Int)] 27)
            have X3 := hide (HdB.new W2 80 (N : Int) (M : Int))
            have B3 := hide (B2.out.trans (b3.mono z2))
            have R3 := hide (R2.out.below b3)
            go_upto_region 35 with fail
            obtain ⟨Y, hY⟩ : ∃ Y, W2.heap.size = Y := ⟨_, rfl⟩
            obtain ⟨V3, hV3⟩ : ∃ V3, W2.alloc (.cells #[.int .u64 80, .int .i64 (N : Int), .int .i64 (M : Int)] 27) = V3 := ⟨_, rfl⟩
            rw [hV3] at X3 B3 R3 ⊢
            rw [hY] at X3 ⊢
            have hYV := (Array.getElem?_eq_some_iff.1 X3.out).1
            have z3 := B3.out.size
            clear hV3 hY b3 B2 z2 R2
            have P1 := hide (parse11_any _ ln k2 L 80 (N : Int) (M : Int) V3 R3.out (by omega) (by omega) (by omega) (by omega) (by omega) (by omega) (by omega))
            unfold hdV at P1
            have P2 := hide (fun W (hW : Below V3.heap.size V3 W) => rshdrs_any _ ln k2 L 80 (M : Int) N W (R3.out.below hW) (by omega) (by omega) (by omega) (by omega) (by omega) (by omega) (by omega))
            unfold hdV at P2
            obtain ⟨x0, x1, x2, _, _, _⟩ := X3.out.at
            go_wp2_with fail
            refine P1.out.mono ?_
            rintro e W5 ⟨hp, b5⟩
            obtain ⟨a1, c1, a1', c1', rfl⟩ : ∃ a c a2 c2, e = .returned (.tuple #[.slice a N c, .slice a2 N c2, .int .i64 0]) := by
              rcases hp with ⟨_, a, c, a2, c2, he, _, _⟩ | ⟨h1, _⟩
              · exact ⟨a, c, a2, c2, he⟩
              · exact absurd (HOK.out.2 (by first | trivial | rfl)) h1
            have B5 := hide (B3.out.trans (b5.mono z3))
            have z5 := B5.out.size
            have P3 := hide (P2.out W5 b5)
            have X5 := hide (X3.out.below hYV b5)
            clear hp b5 P1 P2 x0 x1 x2 X3 B3 R3
            obtain ⟨x0, x1, x2, _, _, _⟩ := X5.out.at
            go_wp2_with fail
            refine P3.out.mono ?_
            rintro e W6 ⟨hp, b6⟩
            obtain ⟨a6, c6, a6', c6', rfl⟩ : ∃ a c a2 c2, e = .returned (.tuple #[.slice a N c, .slice a2 N c2, .int .i64 0]) := by
              rcases hp with ⟨_, a, c, a2, c2, he, _, _⟩ | ⟨h1, _⟩
              · exact ⟨a, c, a2, c2, he⟩
              · exact absurd (HOK.out.2 (by first | trivial | rfl)) h1
            have B6 := hide (B5.out.trans (b6.mono z5))
            clear hp b6 P3 x0 x1 x2 X5 B5 HOK
            go_wp2
            go_ret
            exact ⟨rfl, B6.out⟩
          · have w0 : IntKind.u64.wrap ((v : Int) - 1) = (v : Int) - 1 := u64_wrap_id _ (by omega) (by omega)
            have w2 : (v : Int) ≤ 4096 := by omega
            by_cases hq8 : isPow (v : Int) = true
            · have w1 : (bits .and .u64 (v : Int) ((v : Int) - 1) == 0) = true := (and_pred (a := (v : Int)) (by omega) (by omega)).trans hq8
              obtain ⟨t, ht⟩ : ∃ t : Sh, t = ⟨1, 1, 2, 0, 64, 8, 0, 0, v, 0⟩ := ⟨_, rfl⟩
              have htok : t.Ok := by rw [ht]; exact ⟨by simp only []; omega, by simp only []; omega, by simp only []; omega, by simp only []; omega, by simp only []; omega, by simp only []; omega, by simp only []; omega, by simp only []; omega, by simp only []; omega, by simp only []; omega⟩
              have hrb : (rtB t 1 (80 + 64 * (j + 2)) && decide (t.nm < 7)) = true := by
                have e1 : knB (1) = true := knB_one
                have e2 : flB (2) = true := flB_two
                have e3 : decide ((0 : Nat) = 0) = true := rfl
                have e4 : alB (v) = true := by unfold alB; exact decide_eq_true (.inr ⟨hq6, hq8⟩)
                have e5 : hlB ⟨1, 1, 2, 0, 64, 8, 0, 0, v, 0⟩ (80 + 64 * (j + 2)) = true := by unfold hlB; simp only []; rw [if_neg (by decide)]; exact decide_eq_true (by omega)
                have e6 : decide ((1 : Nat) < 7) = true := rfl
                rw [ht, rt_one]
                show (knB (1) && flB (2) && decide ((0 : Nat) = 0) && alB (v) && hlB ⟨1, 1, 2, 0, 64, 8, 0, 0, v, 0⟩ (80 + 64 * (j + 2)) && decide ((1 : Nat) < 7)) = true
                rw [e1, e2, e3, e4, e5, e6]
                rfl
              clear hq6 hq7 hq8
              have S1x : Hid (RlS w (wr.setCell ⟨g, i * 10 + 8, none⟩ (.int .u64 (v : Int))) g j c i t) := S0.out.set hij 8 (.int .u64 (v : Int)) (by decide) (by rw [ht]; rfl)
              have fz8 := ff (i * 10 + 8)
              clear ff
              go_upto_region 23 with fail
              generalize hVV : (wr.setCell ⟨g, i * 10 + 8, none⟩ (.int .u64 (v : Int))) = V at *
              have S1 := S1x
              clear hVV S0 S1x d0 d1 d2 d3 d4 d5 d6 d7 d8 d9
              obtain ⟨d0, d1, d2, d3, d4, d5, d6, d7, d8, d9⟩ := S1.out.at hij
              have ez : t.al = v := by rw [ht]
              rw [ez] at d8
              clear ht ez
              go_upto_region 34 with fail
              have hok := rules_prs (K := j) hij htok
              rw [hrb] at hok
              have MA := hide (made_any _ j c (rlL j i t) V (S1.out.rh htok) (by omega))
              unfold hdV at MA
              have hl := rlL_len j i t
              clear d0 d1 d2 d3 d4 d5 d6 d7 d8 d9
              go_wp2_with fail
              refine MA.out.mono ?_
              rintro e W2 ⟨v2, rfl, o2, b2⟩
              obtain ⟨ln, hln⟩ : ∃ ln, 80 + 64 * (j + 2) = ln := ⟨_, rfl⟩
              obtain ⟨L, hL⟩ : ∃ L, mdB (rlL j i t) = L := ⟨_, rfl⟩
              have hbL : Bytes L := by rw [← hL]; exact mdB_bytes _
              rw [hL] at hok
              rw [hln, hL] at o2
              have ln0 : 65 ≤ ln := by omega
              have ln1 : ln ≤ 2000 := by omega
              obtain ⟨a2, k2, hv2, r2⟩ := Rd.own o2 hbL
              subst hv2
              have zS := S1.out.bel.size
              have B2 := hide (S1.out.bel.trans (b2.mono zS))
              have z2 := B2.out.size
              have R2 := hide r2
              obtain ⟨N, hN⟩ : ∃ N, j + 2 = N := ⟨_, rfl⟩
              obtain ⟨M, hM⟩ : ∃ M, j + 1 = M := ⟨_, rfl⟩
              rw [hN, hM] at hok ⊢
              have hNj : (j : Int) + 2 = (N : Int) := by omega
              have hNb : N ≤ 14 := by omega
              have hNa : 1 ≤ N := by omega
              have hMb : M ≤ 14 := by omega
              have HOK := hide hok
              clear o2 b2 MA hL hln hN hM r2 hbL zS hok hrb htok S1
              have b3 := (Below.refl W2.heap.size W2).alloc (Nat.le_refl _) (.cells #[.int .u64 80, .int .i64 (N : Int), .int .i64 (M : Int)] 27)
              have X3 := hide (HdB.new W2 80 (N : Int) (M : Int))
              have B3 := hide (B2.out.trans (b3.mono z2))
              have R3 := hide (R2.out.below b3)
              go_upto_region 35 with fail
              obtain ⟨Y, hY⟩ : ∃ Y, W2.heap.size = Y := ⟨_, rfl⟩
              obtain ⟨V3, hV3⟩ : ∃ V3, W2.alloc (.cells #[.int .u64 80, .int .i64 (N : Int), .int .i64 (M : Int)] 27) = V3 := ⟨_, rfl⟩
              rw [hV3] at X3 B3 R3 ⊢
              rw [hY] at X3 ⊢
              have hYV := (Array.getElem?_eq_some_iff.1 X3.out).1
              have z3 := B3.out.size
              clear hV3 hY b3 B2 z2 R2
              have P1 := hide (parse11_any _ ln k2 L 80 (N : Int) (M : Int) V3 R3.out (by omega) (by omega) (by omega) (by omega) (by omega) (by omega) (by omega))
              unfold hdV at P1
              have P2 := hide (fun W (hW : Below V3.heap.size V3 W) => rshdrs_any _ ln k2 L 80 (M : Int) N W (R3.out.below hW) (by omega) (by omega) (by omega) (by omega) (by omega) (by omega) (by omega))
              unfold hdV at P2
              obtain ⟨x0, x1, x2, _, _, _⟩ := X3.out.at
              go_wp2_with fail
              refine P1.out.mono ?_
              rintro e W5 ⟨hp, b5⟩
              obtain ⟨a1, c1, a1', c1', rfl⟩ : ∃ a c a2 c2, e = .returned (.tuple #[.slice a N c, .slice a2 N c2, .int .i64 0]) := by
                rcases hp with ⟨_, a, c, a2, c2, he, _, _⟩ | ⟨h1, _⟩
                · exact ⟨a, c, a2, c2, he⟩
                · exact absurd (HOK.out.2 (by first | trivial | rfl)) h1
              have B5 := hide (B3.out.trans (b5.mono z3))
              have z5 := B5.out.size
              have P3 := hide (P2.out W5 b5)
              have X5 := hide (X3.out.below hYV b5)
              clear hp b5 P1 P2 x0 x1 x2 X3 B3 R3
              obtain ⟨x0, x1, x2, _, _, _⟩ := X5.out.at
              go_wp2_with fail
              refine P3.out.mono ?_
              rintro e W6 ⟨hp, b6⟩
              obtain ⟨a6, c6, a6', c6', rfl⟩ : ∃ a c a2 c2, e = .returned (.tuple #[.slice a N c, .slice a2 N c2, .int .i64 0]) := by
                rcases hp with ⟨_, a, c, a2, c2, he, _, _⟩ | ⟨h1, _⟩
                · exact ⟨a, c, a2, c2, he⟩
                · exact absurd (HOK.out.2 (by first | trivial | rfl)) h1
              have B6 := hide (B5.out.trans (b6.mono z5))
              clear hp b6 P3 x0 x1 x2 X5 B5 HOK
              go_wp2
              go_ret
              exact ⟨rfl, B6.out⟩
            · have w1 : (bits .and .u64 (v : Int) ((v : Int) - 1) == 0) = false := (and_pred (a := (v : Int)) (by omega) (by omega)).trans (by simpa using hq8)
              obtain ⟨t, ht⟩ : ∃ t : Sh, t = ⟨1, 1, 2, 0, 64, 8, 0, 0, v, 0⟩ := ⟨_, rfl⟩
              have htok : t.Ok := by rw [ht]; exact ⟨by simp only []; omega, by simp only []; omega, by simp only []; omega, by simp only []; omega, by simp only []; omega, by simp only []; omega, by simp only []; omega, by simp only []; omega, by simp only []; omega, by simp only []; omega⟩
              have hrb : (rtB t 1 (80 + 64 * (j + 2)) && decide (t.nm < 7)) = false := by
                have e1 : knB (1) = true := knB_one
                have e2 : flB (2) = true := flB_two
                have e3 : decide ((0 : Nat) = 0) = true := rfl
                have e4 : alB (v) = false := by unfold alB; refine decide_eq_false ?_; rintro (h9 | ⟨_, h9⟩); exact hq7 h9; exact hq8 h9
                have e5 : hlB ⟨1, 1, 2, 0, 64, 8, 0, 0, v, 0⟩ (80 + 64 * (j + 2)) = true := by unfold hlB; simp only []; rw [if_neg (by decide)]; exact decide_eq_true (by omega)
                have e6 : decide ((1 : Nat) < 7) = true := rfl
                rw [ht, rt_one]
                show (knB (1) && flB (2) && decide ((0 : Nat) = 0) && alB (v) && hlB ⟨1, 1, 2, 0, 64, 8, 0, 0, v, 0⟩ (80 + 64 * (j + 2)) && decide ((1 : Nat) < 7)) = false
                rw [e1, e2, e3, e4, e5, e6]
                rfl
              clear hq6 hq7 hq8
              have S1x : Hid (RlS w (wr.setCell ⟨g, i * 10 + 8, none⟩ (.int .u64 (v : Int))) g j c i t) := S0.out.set hij 8 (.int .u64 (v : Int)) (by decide) (by rw [ht]; rfl)
              have fz8 := ff (i * 10 + 8)
              clear ff
              go_upto_region 23 with fail
              generalize hVV : (wr.setCell ⟨g, i * 10 + 8, none⟩ (.int .u64 (v : Int))) = V at *
              have S1 := S1x
              clear hVV S0 S1x d0 d1 d2 d3 d4 d5 d6 d7 d8 d9
              obtain ⟨d0, d1, d2, d3, d4, d5, d6, d7, d8, d9⟩ := S1.out.at hij
              have ez : t.al = v := by rw [ht]
              rw [ez] at d8
              clear ht ez
              go_upto_region 34 with fail
              have hok := rules_prs (K := j) hij htok
              rw [hrb] at hok
              have MA := hide (made_any _ j c (rlL j i t) V (S1.out.rh htok) (by omega))
              unfold hdV at MA
              have hl := rlL_len j i t
              clear d0 d1 d2 d3 d4 d5 d6 d7 d8 d9
              go_wp2_with fail
              refine MA.out.mono ?_
              rintro e W2 ⟨v2, rfl, o2, b2⟩
              obtain ⟨ln, hln⟩ : ∃ ln, 80 + 64 * (j + 2) = ln := ⟨_, rfl⟩
              obtain ⟨L, hL⟩ : ∃ L, mdB (rlL j i t) = L := ⟨_, rfl⟩
              have hbL : Bytes L := by rw [← hL]; exact mdB_bytes _
              rw [hL] at hok
              rw [hln, hL] at o2
              have ln0 : 65 ≤ ln := by omega
              have ln1 : ln ≤ 2000 := by omega
              obtain ⟨a2, k2, hv2, r2⟩ := Rd.own o2 hbL
              subst hv2
              have zS := S1.out.bel.size
              have B2 := hide (S1.out.bel.trans (b2.mono zS))
              have z2 := B2.out.size
              have R2 := hide r2
              obtain ⟨N, hN⟩ : ∃ N, j + 2 = N := ⟨_, rfl⟩
              obtain ⟨M, hM⟩ : ∃ M, j + 1 = M := ⟨_, rfl⟩
              rw [hN, hM] at hok ⊢
              have hNj : (j : Int) + 2 = (N : Int) := by omega
              have hNb : N ≤ 14 := by omega
              have hNa : 1 ≤ N := by omega
              have hMb : M ≤ 14 := by omega
              have HOK := hide hok
              clear o2 b2 MA hL hln hN hM r2 hbL zS hok hrb htok S1
              have b3 := (Below.refl W2.heap.size W2).alloc (Nat.le_refl _) (.cells #[.int .u64 80, .int .i64 (N : Int), .int .i64 (M : Int)] 27)
              have X3 := hide (HdB.new W2 80 (N : Int) (M : Int))
              have B3 := hide (B2.out.trans (b3.mono z2))
              have R3 := hide (R2.out.below b3)
              go_upto_region 35 with fail
              obtain ⟨Y, hY⟩ : ∃ Y, W2.heap.size = Y := ⟨_, rfl⟩
              obtain ⟨V3, hV3⟩ : ∃ V3, W2.alloc (.cells #[.int .u64 80, .int .i64 (N : Int), .int .i64 (M : Int)] 27) = V3 := ⟨_, rfl⟩
              rw [hV3] at X3 B3 R3 ⊢
              rw [hY] at X3 ⊢
              have hYV := (Array.getElem?_eq_some_iff.1 X3.out).1
              have z3 := B3.out.size
              clear hV3 hY b3 B2 z2 R2
              have P1 := hide (parse11_any _ ln k2 L 80 (N : Int) (M : Int) V3 R3.out (by omega) (by omega) (by omega) (by omega) (by omega) (by omega) (by omega))
              unfold hdV at P1
              have P2 := hide (fun W (hW : Below V3.heap.size V3 W) => rshdrs_any _ ln k2 L 80 (M : Int) N W (R3.out.below hW) (by omega) (by omega) (by omega) (by omega) (by omega) (by omega) (by omega))
              unfold hdV at P2
              obtain ⟨x0, x1, x2, _, _, _⟩ := X3.out.at
              go_wp2_with fail
              refine P1.out.mono ?_
              rintro e W5 ⟨hp, b5⟩
              obtain rfl : e = .returned (.tuple #[.slice none 0 0, .slice none 0 0, .int .i64 31]) := by
                rcases hp with ⟨h1, _⟩ | ⟨_, he⟩
                · exact absurd (HOK.out.1 h1) (by decide)
                · exact he
              have B5 := hide (B3.out.trans (b5.mono z3))
              have z5 := B5.out.size
              have P3 := hide (P2.out W5 b5)
              have X5 := hide (X3.out.below hYV b5)
              clear hp b5 P1 P2 x0 x1 x2 X3 B3 R3
              obtain ⟨x0, x1, x2, _, _, _⟩ := X5.out.at
              go_wp2_with fail
              refine P3.out.mono ?_
              rintro e W6 ⟨hp, b6⟩
              obtain rfl : e = .returned (.tuple #[.slice none 0 0, .slice none 0 0, .int .i64 31]) := by
                rcases hp with ⟨h1, _⟩ | ⟨_, he⟩
                · exact absurd (HOK.out.1 h1) (by decide)
                · exact he
              have B6 := hide (B5.out.trans (b6.mono z5))
              clear hp b6 P3 x0 x1 x2 X5 B5 HOK
              go_wp2
              go_ret
              exact ⟨rfl, B6.out⟩
        · have w2 : ¬ ((v : Int) ≤ 4096) := by omega
          obtain ⟨t, ht⟩ : ∃ t : Sh, t = ⟨1, 1, 2, 0, 64, 8, 0, 0, v, 0⟩ := ⟨_, rfl⟩
          have htok : t.Ok := by rw [ht]; exact ⟨by simp only []; omega, by simp only []; omega, by simp only []; omega, by simp only []; omega, by simp only []; omega, by simp only []; omega, by simp only []; omega, by simp only []; omega, by simp only []; omega, by simp only []; omega⟩
          have hrb : (rtB t 1 (80 + 64 * (j + 2)) && decide (t.nm < 7)) = false := by
            have e1 : knB (1) = true := knB_one
            have e2 : flB (2) = true := flB_two
            have e3 : decide ((0 : Nat) = 0) = true := rfl
            have e4 : alB (v) = false := by unfold alB; refine decide_eq_false ?_; rintro (h9 | ⟨h9, _⟩) <;> omega
            have e5 : hlB ⟨1, 1, 2, 0, 64, 8, 0, 0, v, 0⟩ (80 + 64 * (j + 2)) = true := by unfold hlB; simp only []; rw [if_neg (by decide)]; exact decide_eq_true (by omega)
            have e6 : decide ((1 : Nat) < 7) = true := rfl
            rw [ht, rt_one]
            show (knB (1) && flB (2) && decide ((0 : Nat) = 0) && alB (v) && hlB ⟨1, 1, 2, 0, 64, 8, 0, 0, v, 0⟩ (80 + 64 * (j + 2)) && decide ((1 : Nat) < 7)) = false
            rw [e1, e2, e3, e4, e5, e6]
            rfl
          clear hq6
          have S1x : Hid (RlS w (wr.setCell ⟨g, i * 10 + 8, none⟩ (.int .u64 (v : Int))) g j c i t) := S0.out.set hij 8 (.int .u64 (v : Int)) (by decide) (by rw [ht]; rfl)
          have fz8 := ff (i * 10 + 8)
          clear ff
          go_upto_region 23 with fail
          generalize hVV : (wr.setCell ⟨g, i * 10 + 8, none⟩ (.int .u64 (v : Int))) = V at *
          have S1 := S1x
          clear hVV S0 S1x d0 d1 d2 d3 d4 d5 d6 d7 d8 d9
          obtain ⟨d0, d1, d2, d3, d4, d5, d6, d7, d8, d9⟩ := S1.out.at hij
          have ez : t.al = v := by rw [ht]
          rw [ez] at d8
          clear ht ez
          go_upto_region 34 with fail
          have hok := rules_prs (K := j) hij htok
          rw [hrb] at hok
          have MA := hide (made_any _ j c (rlL j i t) V (S1.out.rh htok) (by omega))
          unfold hdV at MA
          have hl := rlL_len j i t
          clear d0 d1 d2 d3 d4 d5 d6 d7 d8 d9
          go_wp2_with fail
          refine MA.out.mono ?_
          rintro e W2 ⟨v2, rfl, o2, b2⟩
          obtain ⟨ln, hln⟩ : ∃ ln, 80 + 64 * (j + 2) = ln := ⟨_, rfl⟩
          obtain ⟨L, hL⟩ : ∃ L, mdB (rlL j i t) = L := ⟨_, rfl⟩
          have hbL : Bytes L := by rw [← hL]; exact mdB_bytes _
          rw [hL] at hok
          rw [hln, hL] at o2
          have ln0 : 65 ≤ ln := by omega
          have ln1 : ln ≤ 2000 := by omega
          obtain ⟨a2, k2, hv2, r2⟩ := Rd.own o2 hbL
          subst hv2
          have zS := S1.out.bel.size
          have B2 := hide (S1.out.bel.trans (b2.mono zS))
          have z2 := B2.out.size
          have R2 := hide r2
          obtain ⟨N, hN⟩ : ∃ N, j + 2 = N := ⟨_, rfl⟩
          obtain ⟨M, hM⟩ : ∃ M, j + 1 = M := ⟨_, rfl⟩
          rw [hN, hM] at hok ⊢
          have hNj : (j : Int) + 2 = (N : Int) := by omega
          have hNb : N ≤ 14 := by omega
          have hNa : 1 ≤ N := by omega
          have hMb : M ≤ 14 := by omega
          have HOK := hide hok
          clear o2 b2 MA hL hln hN hM r2 hbL zS hok hrb htok S1
          have b3 := (Below.refl W2.heap.size W2).alloc (Nat.le_refl _) (.cells #[.int .u64 80, .int .i64 (N : Int), .int .i64 (M : Int)] 27)
          have X3 := hide (HdB.new W2 80 (N : Int) (M : Int))
          have B3 := hide (B2.out.trans (b3.mono z2))
          have R3 := hide (R2.out.below b3)
          go_upto_region 35 with fail
          obtain ⟨Y, hY⟩ : ∃ Y, W2.heap.size = Y := ⟨_, rfl⟩
          obtain ⟨V3, hV3⟩ : ∃ V3, W2.alloc (.cells #[.int .u64 80, .int .i64 (N : Int), .int .i64 (M : Int)] 27) = V3 := ⟨_, rfl⟩
          rw [hV3] at X3 B3 R3 ⊢
          rw [hY] at X3 ⊢
          have hYV := (Array.getElem?_eq_some_iff.1 X3.out).1
          have z3 := B3.out.size
          clear hV3 hY b3 B2 z2 R2
          have P1 := hide (parse11_any _ ln k2 L 80 (N : Int) (M : Int) V3 R3.out (by omega) (by omega) (by omega) (by omega) (by omega) (by omega) (by omega))
          unfold hdV at P1
          have P2 := hide (fun W (hW : Below V3.heap.size V3 W) => rshdrs_any _ ln k2 L 80 (M : Int) N W (R3.out.below hW) (by omega) (by omega) (by omega) (by omega) (by omega) (by omega) (by omega))
          unfold hdV at P2
          obtain ⟨x0, x1, x2, _, _, _⟩ := X3.out.at
          go_wp2_with fail
          refine P1.out.mono ?_
          rintro e W5 ⟨hp, b5⟩
          obtain rfl : e = .returned (.tuple #[.slice none 0 0, .slice none 0 0, .int .i64 31]) := by
            rcases hp with ⟨h1, _⟩ | ⟨_, he⟩
            · exact absurd (HOK.out.1 h1) (by decide)
            · exact he
          have B5 := hide (B3.out.trans (b5.mono z3))
          have z5 := B5.out.size
          have P3 := hide (P2.out W5 b5)
          have X5 := hide (X3.out.below hYV b5)
          clear hp b5 P1 P2 x0 x1 x2 X3 B3 R3
          obtain ⟨x0, x1, x2, _, _, _⟩ := X5.out.at
          go_wp2_with fail
          refine P3.out.mono ?_
          rintro e W6 ⟨hp, b6⟩
          obtain rfl : e = .returned (.tuple #[.slice none 0 0, .slice none 0 0, .int .i64 31]) := by
            rcases hp with ⟨h1, _⟩ | ⟨_, he⟩
            · exact absurd (HOK.out.1 h1) (by decide)
            · exact he
          have B6 := hide (B5.out.trans (b6.mono z5))
          clear hp b6 P3 x0 x1 x2 X5 B5 HOK
          go_wp2
          go_ret
          exact ⟨rfl, B6.out⟩
      · by_cases hq7 : v ≤ 67108864
        · have u1 : (v : Int) ≤ 67108864 := by omega
          obtain ⟨t, ht⟩ : ∃ t : Sh, t = ⟨1, 8, 2, 0, 64, v, 0, 0, 8, 0⟩ := ⟨_, rfl⟩
          have htok : t.Ok := by rw [ht]; exact ⟨by simp only []; omega, by simp only []; omega, by simp only []; omega, by simp only []; omega, by simp only []; omega, by simp only []; omega, by simp only []; omega, by simp only []; omega, by simp only []; omega, by simp only []; omega⟩
          have hrb : (rtB t 1 (80 + 64 * (j + 2)) && decide (t.nm < 7)) = true := by
            have e1 : knB (8) = true := knB_one
            have e2 : flB (2) = true := flB_two
            have e3 : decide ((0 : Nat) = 0) = true := rfl
            have e4 : alB (8) = true := alB_eight
            have e5 : hlB ⟨1, 8, 2, 0, 64, v, 0, 0, 8, 0⟩ (80 + 64 * (j + 2)) = true := by unfold hlB; simp only []; rw [if_pos trivial]; exact decide_eq_true hq7
            have e6 : decide ((1 : Nat) < 7) = true := rfl
            rw [ht, rt_one]
            show (knB (8) && flB (2) && decide ((0 : Nat) = 0) && alB (8) && hlB ⟨1, 8, 2, 0, 64, v, 0, 0, 8, 0⟩ (80 + 64 * (j + 2)) && decide ((1 : Nat) < 7)) = true
            rw [e1, e2, e3, e4, e5, e6]
            rfl
          clear hq7
          have S1x : Hid (RlS w (wr.setCell ⟨g, i * 10 + 1, none⟩ (.int .u32 (8 : Int))) g j c i ⟨1, 8, 2, 0, 64, 8, 0, 0, 8, 0⟩) := S0.out.set hij 1 (.int .u32 (8 : Int)) (by decide) rfl
          have fz1 := ff (i * 10 + 1)
          have gz5 := S1x.out.row.frozenAt (i * 10 + 5)
          have gy5 := (S1x.out.at hij).c5
          have S2x : Hid (RlS w ((wr.setCell ⟨g, i * 10 + 1, none⟩ (.int .u32 (8 : Int))).setCell ⟨g, i * 10 + 5, none⟩ (.int .u64 (v : Int))) g j c i t) := S1x.out.set hij 5 (.int .u64 (v : Int)) (by decide) (by rw [ht]; rfl)
          have fz5 := ff (i * 10 + 5)
          clear ff
          go_upto_region 26 with fail
          generalize hVV : ((wr.setCell ⟨g, i * 10 + 1, none⟩ (.int .u32 (8 : Int))).setCell ⟨g, i * 10 + 5, none⟩ (.int .u64 (v : Int))) = V at *
          have S1 := S2x
          clear hVV S0 S1x S2x d0 d1 d2 d3 d4 d5 d6 d7 d8 d9
          obtain ⟨d0, d1, d2, d3, d4, d5, d6, d7, d8, d9⟩ := S1.out.at hij
          have ez : t.ty = 8 := by rw [ht]
          rw [ez] at d1
          clear ht ez
          go_upto_region 34 with fail
          have hok := rules_prs (K := j) hij htok
          rw [hrb] at hok
          have MA := hide (made_any _ j c (rlL j i t) V (S1.out.rh htok) (by omega))
          unfold hdV at MA
          have hl := rlL_len j i t
          clear d0 d1 d2 d3 d4 d5 d6 d7 d8 d9
          go_wp2_with fail
          refine MA.out.mono ?_
          rintro e W2 ⟨v2, rfl, o2, b2⟩
          obtain ⟨ln, hln⟩ : ∃ ln, 80 + 64 * (j + 2) = ln := ⟨_, rfl⟩
          obtain ⟨L, hL⟩ : ∃ L, mdB (rlL j i t) = L := ⟨_, rfl⟩
          have hbL : Bytes L := by rw [← hL]; exact mdB_bytes _
          rw [hL] at hok
          rw [hln, hL] at o2
          have ln0 : 65 ≤ ln := by omega
          have ln1 : ln ≤ 2000 := by omega
          obtain ⟨a2, k2, hv2, r2⟩ := Rd.own o2 hbL
          subst hv2
          have zS := S1.out.bel.size
          have B2 := hide (S1.out.bel.trans (b2.mono zS))
          have z2 := B2.out.size
          have R2 := hide r2
          obtain ⟨N, hN⟩ : ∃ N, j + 2 = N := ⟨_, rfl⟩
          obtain ⟨M, hM⟩ : ∃ M, j + 1 = M := ⟨_, rfl⟩
          rw [hN, hM] at hok ⊢
          have hNj : (j : Int) + 2 = (N : Int) := by omega
          have hNb : N ≤ 14 := by omega
          have hNa : 1 ≤ N := by omega
          have hMb : M ≤ 14 := by omega
          have HOK := hide hok
          clear o2 b2 MA hL hln hN hM r2 hbL zS hok hrb htok S1
          have b3 := (Below.refl W2.heap.size W2).alloc (Nat.le_refl _) (.cells #[.int .u64 80, .int .i64 (N : Int), .int .i64 (M : Int)] 27)
          have X3 := hide (HdB.new W2 80 (N : Int) (M : Int))
          have B3 := hide (B2.out.trans (b3.mono z2))
          have R3 := hide (R2.out.below b3)
          go_upto_region 35 with fail
          obtain ⟨Y, hY⟩ : ∃ Y, W2.heap.size = Y := ⟨_, rfl⟩
          obtain ⟨V3, hV3⟩ : ∃ V3, W2.alloc (.cells #[.int .u64 80, .int .i64 (N : Int), .int .i64 (M : Int)] 27) = V3 := ⟨_, rfl⟩
          rw [hV3] at X3 B3 R3 ⊢
          rw [hY] at X3 ⊢
          have hYV := (Array.getElem?_eq_some_iff.1 X3.out).1
          have z3 := B3.out.size
          clear hV3 hY b3 B2 z2 R2
          have P1 := hide (parse11_any _ ln k2 L 80 (N : Int) (M : Int) V3 R3.out (by omega) (by omega) (by omega) (by omega) (by omega) (by omega) (by omega))
          unfold hdV at P1
          have P2 := hide (fun W (hW : Below V3.heap.size V3 W) => rshdrs_any _ ln k2 L 80 (M : Int) N W (R3.out.below hW) (by omega) (by omega) (by omega) (by omega) (by omega) (by omega) (by omega))
          unfold hdV at P2
          obtain ⟨x0, x1, x2, _, _, _⟩ := X3.out.at
          go_wp2_with fail
          refine P1.out.mono ?_
          rintro e W5 ⟨hp, b5⟩
          obtain ⟨a1, c1, a1', c1', rfl⟩ : ∃ a c a2 c2, e = .returned (.tuple #[.slice a N c, .slice a2 N c2, .int .i64 0]) := by
            rcases hp with ⟨_, a, c, a2, c2, he, _, _⟩ | ⟨h1, _⟩
            · exact ⟨a, c, a2, c2, he⟩
            · exact absurd (HOK.out.2 (by first | trivial | rfl)) h1
          have B5 := hide (B3.out.trans (b5.mono z3))
          have z5 := B5.out.size
          have P3 := hide (P2.out W5 b5)
          have X5 := hide (X3.out.below hYV b5)
          clear hp b5 P1 P2 x0 x1 x2 X3 B3 R3
          obtain ⟨x0, x1, x2, _, _, _⟩ := X5.out.at
          go_wp2_with fail
          refine P3.out.mono ?_
          rintro e W6 ⟨hp, b6⟩
          obtain ⟨a6, c6, a6', c6', rfl⟩ : ∃ a c a2 c2, e = .returned (.tuple #[.slice a N c, .slice a2 N c2, .int .i64 0]) := by
            rcases hp with ⟨_, a, c, a2, c2, he, _, _⟩ | ⟨h1, _⟩
            · exact ⟨a, c, a2, c2, he⟩
            · exact absurd (HOK.out.2 (by first | trivial | rfl)) h1
          have B6 := hide (B5.out.trans (b6.mono z5))
          clear hp b6 P3 x0 x1 x2 X5 B5 HOK
          go_wp2
          go_ret
          exact ⟨rfl, B6.out⟩
        · have u1 : ¬ ((v : Int) ≤ 67108864) := by omega
          obtain ⟨t, ht⟩ : ∃ t : Sh, t = ⟨1, 8, 2, 0, 64, v, 0, 0, 8, 0⟩ := ⟨_, rfl⟩
          have htok : t.Ok := by rw [ht]; exact ⟨by simp only []; omega, by simp only []; omega, by simp only []; omega, by simp only []; omega, by simp only []; omega, by simp only []; omega, by simp only []; omega, by simp only []; omega, by simp only []; omega, by simp only []; omega⟩
          have hrb : (rtB t 1 (80 + 64 * (j + 2)) && decide (t.nm < 7)) = false := by
            have e1 : knB (8) = true := knB_one
            have e2 : flB (2) = true := flB_two
            have e3 : decide ((0 : Nat) = 0) = true := rfl
            have e4 : alB (8) = true := alB_eight
            have e5 : hlB ⟨1, 8, 2, 0, 64, v, 0, 0, 8, 0⟩ (80 + 64 * (j + 2)) = false := by unfold hlB; simp only []; rw [if_pos trivial]; exact decide_eq_false hq7
            have e6 : decide ((1 : Nat) < 7) = true := rfl
            rw [ht, rt_one]
            show (knB (8) && flB (2) && decide ((0 : Nat) = 0) && alB (8) && hlB ⟨1, 8, 2, 0, 64, v, 0, 0, 8, 0⟩ (80 + 64 * (j + 2)) && decide ((1 : Nat) < 7)) = false
            rw [e1, e2, e3, e4, e5, e6]
            rfl
          clear hq7
          have S1x : Hid (RlS w (wr.setCell ⟨g, i * 10 + 1, none⟩ (.int .u32 (8 : Int))) g j c i ⟨1, 8, 2, 0, 64, 8, 0, 0, 8, 0⟩) := S0.out.set hij 1 (.int .u32 (8 : Int)) (by decide) rfl
          have fz1 := ff (i * 10 + 1)
          have gz5 := S1x.out.row.frozenAt (i * 10 + 5)
          have gy5 := (S1x.out.at hij).c5
          have S2x : Hid (RlS w ((wr.setCell ⟨g, i * 10 + 1, none⟩ (.int .u32 (8 : Int))).setCell ⟨g, i * 10 + 5, none⟩ (.int .u64 (v : Int))) g j c i t) := S1x.out.set hij 5 (.int .u64 (v : Int)) (by decide) (by rw [ht]; rfl)
          have fz5 := ff (i * 10 + 5)
          clear ff
          go_upto_region 26 with fail
          generalize hVV : ((wr.setCell ⟨g, i * 10 + 1, none⟩ (.int .u32 (8 : Int))).setCell ⟨g, i * 10 + 5, none⟩ (.int .u64 (v : Int))) = V at *
          have S1 := S2x
          clear hVV S0 S1x S2x d0 d1 d2 d3 d4 d5 d6 d7 d8 d9
          obtain ⟨d0, d1, d2, d3, d4, d5, d6, d7, d8, d9⟩ := S1.out.at hij
          have ez : t.ty = 8 := by rw [ht]
          rw [ez] at d1
          clear ht ez
          go_upto_region 34 with fail
          have hok := rules_prs (K := j) hij htok
          rw [hrb] at hok
          have MA := hide (made_any _ j c (rlL j i t) V (S1.out.rh htok) (by omega))
          unfold hdV at MA
          have hl := rlL_len j i t
          clear d0 d1 d2 d3 d4 d5 d6 d7 d8 d9
          go_wp2_with fail
          refine MA.out.mono ?_
          rintro e W2 ⟨v2, rfl, o2, b2⟩
          obtain ⟨ln, hln⟩ : ∃ ln, 80 + 64 * (j + 2) = ln := ⟨_, rfl⟩
          obtain ⟨L, hL⟩ : ∃ L, mdB (rlL j i t) = L := ⟨_, rfl⟩
          have hbL : Bytes L := by rw [← hL]; exact mdB_bytes _
          rw [hL] at hok
          rw [hln, hL] at o2
          have ln0 : 65 ≤ ln := by omega
          have ln1 : ln ≤ 2000 := by omega
          obtain ⟨a2, k2, hv2, r2⟩ := Rd.own o2 hbL
          subst hv2
          have zS := S1.out.bel.size
          have B2 := hide (S1.out.bel.trans (b2.mono zS))
          have z2 := B2.out.size
          have R2 := hide r2
          obtain ⟨N, hN⟩ : ∃ N, j + 2 = N := ⟨_, rfl⟩
          obtain ⟨M, hM⟩ : ∃ M, j + 1 = M := ⟨_, rfl⟩
          rw [hN, hM] at hok ⊢
          have hNj : (j : Int) + 2 = (N : Int) := by omega
          have hNb : N ≤ 14 := by omega
          have hNa : 1 ≤ N := by omega
          have hMb : M ≤ 14 := by omega
          have HOK := hide hok
          clear o2 b2 MA hL hln hN hM r2 hbL zS hok hrb htok S1
          have b3 := (Below.refl W2.heap.size W2).alloc (Nat.le_refl _) (.cells #[.int .u64 80, .int .i64 (N : Int), .int .i64 (M : Int)] 27)
          have X3 := hide (HdB.new W2 80 (N : Int) (M : Int))
          have B3 := hide (B2.out.trans (b3.mono z2))
          have R3 := hide (R2.out.below b3)
          go_upto_region 35 with fail
          obtain ⟨Y, hY⟩ : ∃ Y, W2.heap.size = Y := ⟨_, rfl⟩
          obtain ⟨V3, hV3⟩ : ∃ V3, W2.alloc (.cells #[.int .u64 80, .int .i64 (N : Int), .int .i64 (M : Int)] 27) = V3 := ⟨_, rfl⟩
          rw [hV3] at X3 B3 R3 ⊢
          rw [hY] at X3 ⊢
          have hYV := (Array.getElem?_eq_some_iff.1 X3.out).1
          have z3 := B3.out.size
          clear hV3 hY b3 B2 z2 R2
          have P1 := hide (parse11_any _ ln k2 L 80 (N : Int) (M : Int) V3 R3.out (by omega) (by omega) (by omega) (by omega) (by omega) (by omega) (by omega))
          unfold hdV at P1
          have P2 := hide (fun W (hW : Below V3.heap.size V3 W) => rshdrs_any _ ln k2 L 80 (M : Int) N W (R3.out.below hW) (by omega) (by omega) (by omega) (by omega) (by omega) (by omega) (by omega))
          unfold hdV at P2
          obtain ⟨x0, x1, x2, _, _, _⟩ := X3.out.at
          go_wp2_with fail
          refine P1.out.mono ?_
          rintro e W5 ⟨hp, b5⟩
          obtain rfl : e = .returned (.tuple #[.slice none 0 0, .slice none 0 0, .int .i64 31]) := by
            rcases hp with ⟨h1, _⟩ | ⟨_, he⟩
            · exact absurd (HOK.out.1 h1) (by decide)
            · exact he
          have B5 := hide (B3.out.trans (b5.mono z3))
          have z5 := B5.out.size
          have P3 := hide (P2.out W5 b5)
          have X5 := hide (X3.out.below hYV b5)
          clear hp b5 P1 P2 x0 x1 x2 X3 B3 R3
          obtain ⟨x0, x1, x2, _, _, _⟩ := X5.out.at
          go_wp2_with fail
          refine P3.out.mono ?_
          rintro e W6 ⟨hp, b6⟩
          obtain rfl : e = .returned (.tuple #[.slice none 0 0, .slice none 0 0, .int .i64 31]) := by
            rcases hp with ⟨h1, _⟩ | ⟨_, he⟩
            · exact absurd (HOK.out.1 h1) (by decide)
            · exact he
          have B6 := hide (B5.out.trans (b6.mono z5))
          clear hp b6 P3 x0 x1 x2 X5 B5 HOK
          go_wp2
          go_ret
          exact ⟨rfl, B6.out⟩
      · have hy : (v : Int) % 400 = ((v % 400 : Nat) : Int) := by omega
        obtain ⟨y, hyy⟩ : ∃ y, v % 400 = y := ⟨_, rfl⟩
        rw [hyy] at hy
        have hy20 : y < 400 := by omega
        clear hyy
        by_cases hq7 : 64 + y ≤ (80 + 64 * (j + 2))
        · have u1 : 64 + (y : Int) ≤ 80 + 64 * ((j : Int) + 2) := by omega
          obtain ⟨t, ht⟩ : ∃ t : Sh, t = ⟨1, 1, 2, 0, 64, y, 0, 0, 8, 0⟩ := ⟨_, rfl⟩
          have htok : t.Ok := by rw [ht]; exact ⟨by simp only []; omega, by simp only []; omega, by simp only []; omega, by simp only []; omega, by simp only []; omega, by simp only []; omega, by simp only []; omega, by simp only []; omega, by simp only []; omega, by simp only []; omega⟩
          have hrb : (rtB t 1 (80 + 64 * (j + 2)) && decide (t.nm < 7)) = true := by
            have e1 : knB (1) = true := knB_one
            have e2 : flB (2) = true := flB_two
            have e3 : decide ((0 : Nat) = 0) = true := rfl
            have e4 : alB (8) = true := alB_eight
            have e5 : hlB ⟨1, 1, 2, 0, 64, y, 0, 0, 8, 0⟩ (80 + 64 * (j + 2)) = true := by unfold hlB; simp only []; rw [if_neg (by decide)]; exact decide_eq_true hq7
            have e6 : decide ((1 : Nat) < 7) = true := rfl
            rw [ht, rt_one]
            show (knB (1) && flB (2) && decide ((0 : Nat) = 0) && alB (8) && hlB ⟨1, 1, 2, 0, 64, y, 0, 0, 8, 0⟩ (80 + 64 * (j + 2)) && decide ((1 : Nat) < 7)) = true
            rw [e1, e2, e3, e4, e5, e6]
            rfl
          clear hq7
          have S1x : Hid (RlS w (wr.setCell ⟨g, i * 10 + 5, none⟩ (.int .u64 (y : Int))) g j c i t) := S0.out.set hij 5 (.int .u64 (y : Int)) (by decide) (by rw [ht]; rfl)
          have fz5 := ff (i * 10 + 5)
          clear ff
          go_upto_region 29 with fail
          generalize hVV : (wr.setCell ⟨g, i * 10 + 5, none⟩ (.int .u64 (y : Int))) = V at *
          have S1 := S1x
          clear hVV S0 S1x d0 d1 d2 d3 d4 d5 d6 d7 d8 d9
          obtain ⟨d0, d1, d2, d3, d4, d5, d6, d7, d8, d9⟩ := S1.out.at hij
          have ez : t.sz = y := by rw [ht]
          rw [ez] at d5
          clear ht ez
          have MB := hide (made_any _ j c (rlL j i t) V (S1.out.rh htok) (by omega))
          unfold hdV at MB
          obtain ⟨LN0, hLN0⟩ : ∃ LN0, 80 + 64 * (j + 2) = LN0 := ⟨_, rfl⟩
          obtain ⟨N0, hN0⟩ : ∃ N0, j + 2 = N0 := ⟨_, rfl⟩
          obtain ⟨M0, hM0⟩ : ∃ M0, j + 1 = M0 := ⟨_, rfl⟩
          rw [hLN0, hN0, hM0] at MB
          have u2 : (64 + (y : Int) ≤ (LN0 : Int)) := by omega
          have hL1 : LN0 ≤ 2000 := by omega
          have hN1' : N0 ≤ 100 := by omega
          have hM1' : M0 ≤ 100 := by omega
          clear d0 d1 d2 d3 d4 d5 d6 d7 d8 d9 hLN0 hN0 hM0 u1
          go_wp2_with fail
          refine MB.out.mono ?_
          rintro e W0 ⟨v0, rfl, o0, b0⟩
          obtain ⟨a0, k0, hv0, r0⟩ := Rd.own o0 (mdB_bytes _)
          subst hv0
          have zV0 := b0.size
          have bb0 := b0.trans (((Below.refl W0.heap.size W0).alloc (Nat.le_refl _) (.cells #[.int .u64 80, .int .i64 (N0 : Int), .int .i64 (M0 : Int)] 27)).mono zV0)
          have S2 := hide (S1.out.below bb0)
          have hk0 := r0.le
          have hk1 := r0.max
          clear o0 b0 r0 MB S1 bb0 zV0
          go_upto_region 30 with fail
          generalize hVV : W0.alloc (.cells #[.int .u64 80, .int .i64 (N0 : Int), .int .i64 (M0 : Int)] 27) = V1 at *
          have S1 := S2
          clear hVV S2 V
          obtain ⟨V, hVV⟩ : ∃ V, V1 = V := ⟨_, rfl⟩
          rw [hVV] at S1 ⊢
          clear hVV
          obtain ⟨d0, d1, d2, d3, d4, d5, d6, d7, d8, d9⟩ := S1.out.at hij
          go_upto_region 34 with fail
          have hok := rules_prs (K := j) hij htok
          rw [hrb] at hok
          have MA := hide (made_any _ j c (rlL j i t) V (S1.out.rh htok) (by omega))
          unfold hdV at MA
          have hl := rlL_len j i t
          clear d0 d1 d2 d3 d4 d5 d6 d7 d8 d9
          go_wp2_with fail
          refine MA.out.mono ?_
          rintro e W2 ⟨v2, rfl, o2, b2⟩
          obtain ⟨ln, hln⟩ : ∃ ln, 80 + 64 * (j + 2) = ln := ⟨_, rfl⟩
          obtain ⟨L, hL⟩ : ∃ L, mdB (rlL j i t) = L := ⟨_, rfl⟩
          have hbL : Bytes L := by rw [← hL]; exact mdB_bytes _
          rw [hL] at hok
          rw [hln, hL] at o2
          have ln0 : 65 ≤ ln := by omega
          have ln1 : ln ≤ 2000 := by omega
          obtain ⟨a2, k2, hv2, r2⟩ := Rd.own o2 hbL
          subst hv2
          have zS := S1.out.bel.size
          have B2 := hide (S1.out.bel.trans (b2.mono zS))
          have z2 := B2.out.size
          have R2 := hide r2
          obtain ⟨N, hN⟩ : ∃ N, j + 2 = N := ⟨_, rfl⟩
          obtain ⟨M, hM⟩ : ∃ M, j + 1 = M := ⟨_, rfl⟩
          rw [hN, hM] at hok ⊢
          have hNj : (j : Int) + 2 = (N : Int) := by omega
          have hNb : N ≤ 14 := by omega
          have hNa : 1 ≤ N := by omega
          have hMb : M ≤ 14 := by omega
          have HOK := hide hok
          clear o2 b2 MA hL hln hN hM r2 hbL zS hok hrb htok S1
          have b3 := (Below.refl W2.heap.size W2).alloc (Nat.le_refl _) (.cells #[.int .u64 80, .int .i64 (N : Int), .int .i64 (M : Int)] 27)
          have X3 := hide (HdB.new W2 80 (N : Int) (M : Int))
          have B3 := hide (B2.out.trans (b3.mono z2))
          have R3 := hide (R2.out.below b3)
          go_upto_region 35 with fail
          obtain ⟨Y, hY⟩ : ∃ Y, W2.heap.size = Y := ⟨_, rfl⟩
          obtain ⟨V3, hV3⟩ : ∃ V3, W2.alloc (.cells #[.int .u64 80, .int .i64 (N : Int), .int .i64 (M : Int)] 27) = V3 := ⟨_, rfl⟩
          rw [hV3] at X3 B3 R3 ⊢
          rw [hY] at X3 ⊢
          have hYV := (Array.getElem?_eq_some_iff.1 X3.out).1
          have z3 := B3.out.size
          clear hV3 hY b3 B2 z2 R2
          have P1 := hide (parse11_any _ ln k2 L 80 (N : Int) (M : Int) V3 R3.out (by omega) (by omega) (by omega) (by omega) (by omega) (by omega) (by omega))
          unfold hdV at P1
          have P2 := hide (fun W (hW : Below V3.heap.size V3 W) => rshdrs_any _ ln k2 L 80 (M : Int) N W (R3.out.below hW) (by omega) (by omega) (by omega) (by omega) (by omega) (by omega) (by omega))
          unfold hdV at P2
          obtain ⟨x0, x1, x2, _, _, _⟩ := X3.out.at
          go_wp2_with fail
          refine P1.out.mono ?_
          rintro e W5 ⟨hp, b5⟩
          obtain ⟨a1, c1, a1', c1', rfl⟩ : ∃ a c a2 c2, e = .returned (.tuple #[.slice a N c, .slice a2 N c2, .int .i64 0]) := by
            rcases hp with ⟨_, a, c, a2, c2, he, _, _⟩ | ⟨h1, _⟩
            · exact ⟨a, c, a2, c2, he⟩
            · exact absurd (HOK.out.2 (by first | trivial | rfl)) h1
          have B5 := hide (B3.out.trans (b5.mono z3))
          have z5 := B5.out.size
          have P3 := hide (P2.out W5 b5)
          have X5 := hide (X3.out.below hYV b5)
          clear hp b5 P1 P2 x0 x1 x2 X3 B3 R3
          obtain ⟨x0, x1, x2, _, _, _⟩ := X5.out.at
          go_wp2_with fail
          refine P3.out.mono ?_
          rintro e W6 ⟨hp, b6⟩
          obtain ⟨a6, c6, a6', c6', rfl⟩ : ∃ a c a2 c2, e = .returned (.tuple #[.slice a N c, .slice a2 N c2, .int .i64 0]) := by
            rcases hp with ⟨_, a, c, a2, c2, he, _, _⟩ | ⟨h1, _⟩
            · exact ⟨a, c, a2, c2, he⟩
            · exact absurd (HOK.out.2 (by first | trivial | rfl)) h1
          have B6 := hide (B5.out.trans (b6.mono z5))
          clear hp b6 P3 x0 x1 x2 X5 B5 HOK
          go_wp2
          go_ret
          exact ⟨rfl, B6.out⟩
        · have u1 : ¬ (64 + (y : Int) ≤ 80 + 64 * ((j : Int) + 2)) := by omega
          obtain ⟨t, ht⟩ : ∃ t : Sh, t = ⟨1, 1, 2, 0, 64, y, 0, 0, 8, 0⟩ := ⟨_, rfl⟩
          have htok : t.Ok := by rw [ht]; exact ⟨by simp only []; omega, by simp only []; omega, by simp only []; omega, by simp only []; omega, by simp only []; omega, by simp only []; omega, by simp only []; omega, by simp only []; omega, by simp only []; omega, by simp only []; omega⟩
          have hrb : (rtB t 1 (80 + 64 * (j + 2)) && decide (t.nm < 7)) = false := by
            have e1 : knB (1) = true := knB_one
            have e2 : flB (2) = true := flB_two
            have e3 : decide ((0 : Nat) = 0) = true := rfl
            have e4 : alB (8) = true := alB_eight
            have e5 : hlB ⟨1, 1, 2, 0, 64, y, 0, 0, 8, 0⟩ (80 + 64 * (j + 2)) = false := by unfold hlB; simp only []; rw [if_neg (by decide)]; exact decide_eq_false hq7
            have e6 : decide ((1 : Nat) < 7) = true := rfl
            rw [ht, rt_one]
            show (knB (1) && flB (2) && decide ((0 : Nat) = 0) && alB (8) && hlB ⟨1, 1, 2, 0, 64, y, 0, 0, 8, 0⟩ (80 + 64 * (j + 2)) && decide ((1 : Nat) < 7)) = false
            rw [e1, e2, e3, e4, e5, e6]
            rfl
          clear hq7
          have S1x : Hid (RlS w (wr.setCell ⟨g, i * 10 + 5, none⟩ (.int .u64 (y : Int))) g j c i t) := S0.out.set hij 5 (.int .u64 (y : Int)) (by decide) (by rw [ht]; rfl)
          have fz5 := ff (i * 10 + 5)
          clear ff
          go_upto_region 29 with fail
          generalize hVV : (wr.setCell ⟨g, i * 10 + 5, none⟩ (.int .u64 (y : Int))) = V at *
          have S1 := S1x
          clear hVV S0 S1x d0 d1 d2 d3 d4 d5 d6 d7 d8 d9
          obtain ⟨d0, d1, d2, d3, d4, d5, d6, d7, d8, d9⟩ := S1.out.at hij
          have ez : t.sz = y := by rw [ht]
          rw [ez] at d5
          clear ht ez
          have MB := hide (made_any _ j c (rlL j i t) V (S1.out.rh htok) (by omega))
          unfold hdV at MB
          obtain ⟨LN0, hLN0⟩ : ∃ LN0, 80 + 64 * (j + 2) = LN0 := ⟨_, rfl⟩
          obtain ⟨N0, hN0⟩ : ∃ N0, j + 2 = N0 := ⟨_, rfl⟩
          obtain ⟨M0, hM0⟩ : ∃ M0, j + 1 = M0 := ⟨_, rfl⟩
          rw [hLN0, hN0, hM0] at MB
          have u2 : ¬ (64 + (y : Int) ≤ (LN0 : Int)) := by omega
          have hL1 : LN0 ≤ 2000 := by omega
          have hN1' : N0 ≤ 100 := by omega
          have hM1' : M0 ≤ 100 := by omega
          clear d0 d1 d2 d3 d4 d5 d6 d7 d8 d9 hLN0 hN0 hM0 u1
          go_wp2_with fail
          refine MB.out.mono ?_
          rintro e W0 ⟨v0, rfl, o0, b0⟩
          obtain ⟨a0, k0, hv0, r0⟩ := Rd.own o0 (mdB_bytes _)
          subst hv0
          have zV0 := b0.size
          have bb0 := b0.trans (((Below.refl W0.heap.size W0).alloc (Nat.le_refl _) (.cells #[.int .u64 80, .int .i64 (N0 : Int), .int .i64 (M0 : Int)] 27)).mono zV0)
          have S2 := hide (S1.out.below bb0)
          have hk0 := r0.le
          have hk1 := r0.max
          clear o0 b0 r0 MB S1 bb0 zV0
          go_upto_region 30 with fail
          generalize hVV : W0.alloc (.cells #[.int .u64 80, .int .i64 (N0 : Int), .int .i64 (M0 : Int)] 27) = V1 at *
          have S1 := S2
          clear hVV S2 V
          obtain ⟨V, hVV⟩ : ∃ V, V1 = V := ⟨_, rfl⟩
          rw [hVV] at S1 ⊢
          clear hVV
          obtain ⟨d0, d1, d2, d3, d4, d5, d6, d7, d8, d9⟩ := S1.out.at hij
          go_upto_region 34 with fail
          have hok := rules_prs (K := j) hij htok
          rw [hrb] at hok
          have MA := hide (made_any _ j c (rlL j i t) V (S1.out.rh htok) (by omega))
          unfold hdV at MA
          have hl := rlL_len j i t
          clear d0 d1 d2 d3 d4 d5 d6 d7 d8 d9
          go_wp2_with fail
          refine MA.out.mono ?_
          rintro e W2 ⟨v2, rfl, o2, b2⟩
          obtain ⟨ln, hln⟩ : ∃ ln, 80 + 64 * (j + 2) = ln := ⟨_, rfl⟩
          obtain ⟨L, hL⟩ : ∃ L, mdB (rlL j i t) = L := ⟨_, rfl⟩
          have hbL : Bytes L := by rw [← hL]; exact mdB_bytes _
          rw [hL] at hok
          rw [hln, hL] at o2
          have ln0 : 65 ≤ ln := by omega
          have ln1 : ln ≤ 2000 := by omega
          obtain ⟨a2, k2, hv2, r2⟩ := Rd.own o2 hbL
          subst hv2
          have zS := S1.out.bel.size
          have B2 := hide (S1.out.bel.trans (b2.mono zS))
          have z2 := B2.out.size
          have R2 := hide r2
          obtain ⟨N, hN⟩ : ∃ N, j + 2 = N := ⟨_, rfl⟩
          obtain ⟨M, hM⟩ : ∃ M, j + 1 = M := ⟨_, rfl⟩
          rw [hN, hM] at hok ⊢
          have hNj : (j : Int) + 2 = (N : Int) := by omega
          have hNb : N ≤ 14 := by omega
          have hNa : 1 ≤ N := by omega
          have hMb : M ≤ 14 := by omega
          have HOK := hide hok
          clear o2 b2 MA hL hln hN hM r2 hbL zS hok hrb htok S1
          have b3 := (Below.refl W2.heap.size W2).alloc (Nat.le_refl _) (.cells #[.int .u64 80, .int .i64 (N : Int), .int .i64 (M : Int)] 27)
          have X3 := hide (HdB.new W2 80 (N : Int) (M : Int))
          have B3 := hide (B2.out.trans (b3.mono z2))
          have R3 := hide (R2.out.below b3)
          go_upto_region 35 with fail
          obtain ⟨Y, hY⟩ : ∃ Y, W2.heap.size = Y := ⟨_, rfl⟩
          obtain ⟨V3, hV3⟩ : ∃ V3, W2.alloc (.cells #[.int .u64 80, .int .i64 (N : Int), .int .i64 (M : Int)] 27) = V3 := ⟨_, rfl⟩
          rw [hV3] at X3 B3 R3 ⊢
          rw [hY] at X3 ⊢
          have hYV := (Array.getElem?_eq_some_iff.1 X3.out).1
          have z3 := B3.out.size
          clear hV3 hY b3 B2 z2 R2
          have P1 := hide (parse11_any _ ln k2 L 80 (N : Int) (M : Int) V3 R3.out (by omega) (by omega) (by omega) (by omega) (by omega) (by omega) (by omega))
          unfold hdV at P1
          have P2 := hide (fun W (hW : Below V3.heap.size V3 W) => rshdrs_any _ ln k2 L 80 (M : Int) N W (R3.out.below hW) (by omega) (by omega) (by omega) (by omega) (by omega) (by omega) (by omega))
          unfold hdV at P2
          obtain ⟨x0, x1, x2, _, _, _⟩ := X3.out.at
          go_wp2_with fail
          refine P1.out.mono ?_
          rintro e W5 ⟨hp, b5⟩
          obtain rfl : e = .returned (.tuple #[.slice none 0 0, .slice none 0 0, .int .i64 31]) := by
            rcases hp with ⟨h1, _⟩ | ⟨_, he⟩
            · exact absurd (HOK.out.1 h1) (by decide)
            · exact he
          have B5 := hide (B3.out.trans (b5.mono z3))
          have z5 := B5.out.size
          have P3 := hide (P2.out W5 b5)
          have X5 := hide (X3.out.below hYV b5)
          clear hp b5 P1 P2 x0 x1 x2 X3 B3 R3
          obtain ⟨x0, x1, x2, _, _, _⟩ := X5.out.at
          go_wp2_with fail
          refine P3.out.mono ?_
          rintro e W6 ⟨hp, b6⟩
          obtain rfl : e = .returned (.tuple #[.slice none 0 0, .slice none 0 0, .int .i64 31]) := by
            rcases hp with ⟨h1, _⟩ | ⟨_, he⟩
            · exact absurd (HOK.out.1 h1) (by decide)
            · exact he
          have B6 := hide (B5.out.trans (b6.mono z5))
          clear hp b6 P3 x0 x1 x2 X5 B5 HOK
          go_wp2
          go_ret
          exact ⟨rfl, B6.out⟩
      · have hy : (v : Int) % 9 = ((v % 9 : Nat) : Int) := by omega
        obtain ⟨y, hyy⟩ : ∃ y, v % 9 = y := ⟨_, rfl⟩
        rw [hyy] at hy
        have hy20 : y < 9 := by omega
        clear hyy
        by_cases hq7 : y < 7
        · have u1 : (y : Int) < 7 := by omega
          obtain ⟨t, ht⟩ : ∃ t : Sh, t = ⟨y, 1, 2, 0, 64, 8, 0, 0, 8, 0⟩ := ⟨_, rfl⟩
          have htok : t.Ok := by rw [ht]; exact ⟨by simp only []; omega, by simp only []; omega, by simp only []; omega, by simp only []; omega, by simp only []; omega, by simp only []; omega, by simp only []; omega, by simp only []; omega, by simp only []; omega, by simp only []; omega⟩
          have hrb : (rtB t 1 (80 + 64 * (j + 2)) && decide (t.nm < 7)) = true := by
            have e1 : knB (1) = true := knB_one
            have e2 : flB (2) = true := flB_two
            have e3 : decide ((0 : Nat) = 0) = true := rfl
            have e4 : alB (8) = true := alB_eight
            have e5 : hlB ⟨y, 1, 2, 0, 64, 8, 0, 0, 8, 0⟩ (80 + 64 * (j + 2)) = true := by unfold hlB; simp only []; rw [if_neg (by decide)]; exact decide_eq_true (by omega)
            have e6 : decide ((y : Nat) < 7) = true := decide_eq_true hq7
            rw [ht, rt_one]
            show (knB (1) && flB (2) && decide ((0 : Nat) = 0) && alB (8) && hlB ⟨y, 1, 2, 0, 64, 8, 0, 0, 8, 0⟩ (80 + 64 * (j + 2)) && decide ((y : Nat) < 7)) = true
            rw [e1, e2, e3, e4, e5, e6]
            rfl
          clear hq7
          have S1x : Hid (RlS w (wr.setCell ⟨g, i * 10, none⟩ (.int .u32 (y : Int))) g j c i t) := S0.out.set hij 0 (.int .u32 (y : Int)) (by decide) (by rw [ht]; rfl)
          have fz0 := ff (i * 10)
          clear ff
          go_upto_region 33 with fail
          generalize hVV : (wr.setCell ⟨g, i * 10, none⟩ (.int .u32 (y : Int))) = V at *
          have S1 := S1x
          clear hVV S0 S1x d0 d1 d2 d3 d4 d5 d6 d7 d8 d9
          obtain ⟨d0, d1, d2, d3, d4, d5, d6, d7, d8, d9⟩ := S1.out.at hij
          have ez : t.nm = y := by rw [ht]
          rw [ez] at d0
          clear ht ez
          go_upto_region 34 with fail
          have hok := rules_prs (K := j) hij htok
          rw [hrb] at hok
          have MA := hide (made_any _ j c (rlL j i t) V (S1.out.rh htok) (by omega))
          unfold hdV at MA
          have hl := rlL_len j i t
          clear d0 d1 d2 d3 d4 d5 d6 d7 d8 d9
          go_wp2_with fail
          refine MA.out.mono ?_
          rintro e W2 ⟨v2, rfl, o2, b2⟩
          obtain ⟨ln, hln⟩ : ∃ ln, 80 + 64 * (j + 2) = ln := ⟨_, rfl⟩
          obtain ⟨L, hL⟩ : ∃ L, mdB (rlL j i t) = L := ⟨_, rfl⟩
          have hbL : Bytes L := by rw [← hL]; exact mdB_bytes _
          rw [hL] at hok
          rw [hln, hL] at o2
          have ln0 : 65 ≤ ln := by omega
          have ln1 : ln ≤ 2000 := by omega
          obtain ⟨a2, k2, hv2, r2⟩ := Rd.own o2 hbL
          subst hv2
          have zS := S1.out.bel.size
          have B2 := hide (S1.out.bel.trans (b2.mono zS))
          have z2 := B2.out.size
          have R2 := hide r2
          obtain ⟨N, hN⟩ : ∃ N, j + 2 = N := ⟨_, rfl⟩
          obtain ⟨M, hM⟩ : ∃ M, j + 1 = M := ⟨_, rfl⟩
          rw [hN, hM] at hok ⊢
          have hNj : (j : Int) + 2 = (N : Int) := by omega
          have hNb : N ≤ 14 := by omega
          have hNa : 1 ≤ N := by omega
          have hMb : M ≤ 14 := by omega
          have HOK := hide hok
          clear o2 b2 MA hL hln hN hM r2 hbL zS hok hrb htok S1
          have b3 := (Below.refl W2.heap.size W2).alloc (Nat.le_refl _) (.cells #[.int .u64 80, .int .i64 (N : Int), .int .i64 (M : Int)] 27)
          have X3 := hide (HdB.new W2 80 (N : Int) (M : Int))
          have B3 := hide (B2.out.trans (b3.mono z2))
          have R3 := hide (R2.out.below b3)
          go_upto_region 35 with fail
          obtain ⟨Y, hY⟩ : ∃ Y, W2.heap.size = Y := ⟨_, rfl⟩
          obtain ⟨V3, hV3⟩ : ∃ V3, W2.alloc (.cells #[.int .u64 80, .int .i64 (N : Int), .int .i64 (M : Int)] 27) = V3 := ⟨_, rfl⟩
          rw [hV3] at X3 B3 R3 ⊢
          rw [hY] at X3 ⊢
          have hYV := (Array.getElem?_eq_some_iff.1 X3.out).1
          have z3 := B3.out.size
          clear hV3 hY b3 B2 z2 R2
          have P1 := hide (parse11_any _ ln k2 L 80 (N : Int) (M : Int) V3 R3.out (by omega) (by omega) (by omega) (by omega) (by omega) (by omega) (by omega))
          unfold hdV at P1
          have P2 := hide (fun W (hW : Below V3.heap.size V3 W) => rshdrs_any _ ln k2 L 80 (M : Int) N W (R3.out.below hW) (by omega) (by omega) (by omega) (by omega) (by omega) (by omega) (by omega))
          unfold hdV at P2
          obtain ⟨x0, x1, x2, _, _, _⟩ := X3.out.at
          go_wp2_with fail
          refine P1.out.mono ?_
          rintro e W5 ⟨hp, b5⟩
          obtain ⟨a1, c1, a1', c1', rfl⟩ : ∃ a c a2 c2, e = .returned (.tuple #[.slice a N c, .slice a2 N c2, .int .i64 0]) := by
            rcases hp with ⟨_, a, c, a2, c2, he, _, _⟩ | ⟨h1, _⟩
            · exact ⟨a, c, a2, c2, he⟩
            · exact absurd (HOK.out.2 (by first | trivial | rfl)) h1
          have B5 := hide (B3.out.trans (b5.mono z3))
          have z5 := B5.out.size
          have P3 := hide (P2.out W5 b5)
          have X5 := hide (X3.out.below hYV b5)
          clear hp b5 P1 P2 x0 x1 x2 X3 B3 R3
          obtain ⟨x0, x1, x2, _, _, _⟩ := X5.out.at
          go_wp2_with fail
          refine P3.out.mono ?_
          rintro e W6 ⟨hp, b6⟩
          obtain ⟨a6, c6, a6', c6', rfl⟩ : ∃ a c a2 c2, e = .returned (.tuple #[.slice a N c, .slice a2 N c2, .int .i64 0]) := by
            rcases hp with ⟨_, a, c, a2, c2, he, _, _⟩ | ⟨h1, _⟩
            · exact ⟨a, c, a2, c2, he⟩
            · exact absurd (HOK.out.2 (by first | trivial | rfl)) h1
          have B6 := hide (B5.out.trans (b6.mono z5))
          clear hp b6 P3 x0 x1 x2 X5 B5 HOK
          go_wp2
          go_ret
          exact ⟨rfl, B6.out⟩
        · have u1 : ¬ ((y : Int) < 7) := by omega
          obtain ⟨t, ht⟩ : ∃ t : Sh, t = ⟨y, 1, 2, 0, 64, 8, 0, 0, 8, 0⟩ := ⟨_, rfl⟩
          have htok : t.Ok := by rw [ht]; exact ⟨by simp only []; omega, by simp only []; omega, by simp only []; omega, by simp only []; omega, by simp only []; omega, by simp only []; omega, by simp only []; omega, by simp only []; omega, by simp only []; omega, by simp only []; omega⟩
          have hrb : (rtB t 1 (80 + 64 * (j + 2)) && decide (t.nm < 7)) = false := by
            have e1 : knB (1) = true := knB_one
            have e2 : flB (2) = true := flB_two
            have e3 : decide ((0 : Nat) = 0) = true := rfl
            have e4 : alB (8) = true := alB_eight
            have e5 : hlB ⟨y, 1, 2, 0, 64, 8, 0, 0, 8, 0⟩ (80 + 64 * (j + 2)) = true := by unfold hlB; simp only []; rw [if_neg (by decide)]; exact decide_eq_true (by omega)
            have e6 : decide ((y : Nat) < 7) = false := decide_eq_false hq7
            rw [ht, rt_one]
            show (knB (1) && flB (2) && decide ((0 : Nat) = 0) && alB (8) && hlB ⟨y, 1, 2, 0, 64, 8, 0, 0, 8, 0⟩ (80 + 64 * (j + 2)) && decide ((y : Nat) < 7)) = false
            rw [e1, e2, e3, e4, e5, e6]
            rfl
          clear hq7
          have S1x : Hid (RlS w (wr.setCell ⟨g, i * 10, none⟩ (.int .u32 (y : Int))) g j c i t) := S0.out.set hij 0 (.int .u32 (y : Int)) (by decide) (by rw [ht]; rfl)
          have fz0 := ff (i * 10)
          clear ff
          go_upto_region 33 with fail
          generalize hVV : (wr.setCell ⟨g, i * 10, none⟩ (.int .u32 (y : Int))) = V at *
          have S1 := S1x
          clear hVV S0 S1x d0 d1 d2 d3 d4 d5 d6 d7 d8 d9
          obtain ⟨d0, d1, d2, d3, d4, d5, d6, d7, d8, d9⟩ := S1.out.at hij
          have ez : t.nm = y := by rw [ht]
          rw [ez] at d0
          clear ht ez
          go_upto_region 34 with fail
          have hok := rules_prs (K := j) hij htok
          rw [hrb] at hok
          have MA := hide (made_any _ j c (rlL j i t) V (S1.out.rh htok) (by omega))
          unfold hdV at MA
          have hl := rlL_len j i t
          clear d0 d1 d2 d3 d4 d5 d6 d7 d8 d9
          go_wp2_with fail
          refine MA.out.mono ?_
          rintro e W2 ⟨v2, rfl, o2, b2⟩
          obtain ⟨ln, hln⟩ : ∃ ln, 80 + 64 * (j + 2) = ln := ⟨_, rfl⟩
          obtain ⟨L, hL⟩ : ∃ L, mdB (rlL j i t) = L := ⟨_, rfl⟩
          have hbL : Bytes L := by rw [← hL]; exact mdB_bytes _
          rw [hL] at hok
          rw [hln, hL] at o2
          have ln0 : 65 ≤ ln := by omega
          have ln1 : ln ≤ 2000 := by omega
          obtain ⟨a2, k2, hv2, r2⟩ := Rd.own o2 hbL
          subst hv2
          have zS := S1.out.bel.size
          have B2 := hide (S1.out.bel.trans (b2.mono zS))
          have z2 := B2.out.size
          have R2 := hide r2
          obtain ⟨N, hN⟩ : ∃ N, j + 2 = N := ⟨_, rfl⟩
          obtain ⟨M, hM⟩ : ∃ M, j + 1 = M := ⟨_, rfl⟩
          rw [hN, hM] at hok ⊢
          have hNj : (j : Int) + 2 = (N : Int) := by omega
          have hNb : N ≤ 14 := by omega
          have hNa : 1 ≤ N := by omega
          have hMb : M ≤ 14 := by omega
          have HOK := hide hok
          clear o2 b2 MA hL hln hN hM r2 hbL zS hok hrb htok S1
          have b3 := (Below.refl W2.heap.size W2).alloc (Nat.le_refl _) (.cells #[.int .u64 80, .int .i64 (N : Int), .int .i64 (M : Int)] 27)
          have X3 := hide (HdB.new W2 80 (N : Int) (M : Int))
          have B3 := hide (B2.out.trans (b3.mono z2))
          have R3 := hide (R2.out.below b3)
          go_upto_region 35 with fail
          obtain ⟨Y, hY⟩ : ∃ Y, W2.heap.size = Y := ⟨_, rfl⟩
          obtain ⟨V3, hV3⟩ : ∃ V3, W2.alloc (.cells #[.int .u64 80, .int .i64 (N : Int), .int .i64 (M : Int)] 27) = V3 := ⟨_, rfl⟩
          rw [hV3] at X3 B3 R3 ⊢
          rw [hY] at X3 ⊢
          have hYV := (Array.getElem?_eq_some_iff.1 X3.out).1
          have z3 := B3.out.size
          clear hV3 hY b3 B2 z2 R2
          have P1 := hide (parse11_any _ ln k2 L 80 (N : Int) (M : Int) V3 R3.out (by omega) (by omega) (by omega) (by omega) (by omega) (by omega) (by omega))
          unfold hdV at P1
          have P2 := hide (fun W (hW : Below V3.heap.size V3 W) => rshdrs_any _ ln k2 L 80 (M : Int) N W (R3.out.below hW) (by omega) (by omega) (by omega) (by omega) (by omega) (by omega) (by omega))
          unfold hdV at P2
          obtain ⟨x0, x1, x2, _, _, _⟩ := X3.out.at
          go_wp2_with fail
          refine P1.out.mono ?_
          rintro e W5 ⟨hp, b5⟩
          obtain rfl : e = .returned (.tuple #[.slice none 0 0, .slice none 0 0, .int .i64 31]) := by
            rcases hp with ⟨h1, _⟩ | ⟨_, he⟩
            · exact absurd (HOK.out.1 h1) (by decide)
            · exact he
          have B5 := hide (B3.out.trans (b5.mono z3))
          have z5 := B5.out.size
          have P3 := hide (P2.out W5 b5)
          have X5 := hide (X3.out.below hYV b5)
          clear hp b5 P1 P2 x0 x1 x2 X3 B3 R3
          obtain ⟨x0, x1, x2, _, _, _⟩ := X5.out.at
          go_wp2_with fail
          refine P3.out.mono ?_
          rintro e W6 ⟨hp, b6⟩
          obtain rfl : e = .returned (.tuple #[.slice none 0 0, .slice none 0 0, .int .i64 31]) := by
            rcases hp with ⟨h1, _⟩ | ⟨_, he⟩
            · exact absurd (HOK.out.1 h1) (by decide)
            · exact he
          have B6 := hide (B5.out.trans (b6.mono z5))
          clear hp b6 P3 x0 x1 x2 X5 B5 HOK
          go_wp2
          go_ret
          exact ⟨rfl, B6.out⟩

end Go.Proofs.Ytmmbahblnmhhmaa
