/- ArMany's whole walk: for any two numbers it answers true. -/
import Derived.Test.YtmmcnkdefpfkiaaDoorArFull
namespace Go.Proofs.YtmmcnkdefpfkiaaDoor
open Go.RowKit Go.Maps
set_option linter.unusedVariables false
set_option maxRecDepth 100000
set_option maxRecDepth 20000
set_option linter.unusedSimpArgs false

theorem rem_u8 (n : Int) (h0 : 0 ≤ n) (h1 : n ≤ 255) (m : Nat) (hm : 0 < m) : ∃ r : Nat, r < m ∧ n % (m : Int) = (r : Int) ∧ n.tmod (m : Int) = (r : Int) := by
  obtain ⟨k, rfl⟩ := Int.eq_ofNat_of_zero_le h0
  exact ⟨k % m, Nat.mod_lt _ hm, rfl, by rw [Int.tmod_eq_emod_of_nonneg h0]; rfl⟩
theorem OM.own {w : World} {B : Nat} {v : Value} {l : List Mb} (h : OM w B v l) : ∃ vs : List MbV, w.ownsRow B 26 2 v l.length (mbC.all vs) ∧ vs.length = l.length ∧ ∀ (i : Nat) (m : Mb), l[i]? = some m → ∃ u, vs[i]? = some u ∧ u.Own w B m := h.ex

/-- A new row of noughts. -/
theorem zeros_new (w : World) (N : Nat) (hN : N ≤ 140737488355328) : ∃ W, Sem.run Tryd.prog (Instr.makeSlice 24 (.int .i64 (N : Int)) (.int .i64 (N : Int))) w = .ok (.slice (some ⟨w.heap.size, 0, none⟩) N N) W ∧ W.ownsRow w.heap.size 5 1 (.slice (some ⟨w.heap.size, 0, none⟩) N N) N (cs8 (List.replicate N 0)) ∧ Below w.heap.size w W := by
  obtain ⟨i0, hi, hz0, hz1, hz2⟩ := info_parts Tryd.info8
  have hmk := run_make (P := Tryd.prog) w 24 5 i0 (.int .u8 0) Tryd.underlying24 hi hz0 .i64 .i64 (N : Int) (N : Int) (by omega) (by omega) (by rw [hz2]; omega) (by omega)
  rw [hz1, Int.toNat_natCast] at hmk
  have hcs : (Value.int .u8 0).cells = #[.int .u8 0] := rfl
  rw [hcs, Nat.mul_one] at hmk
  have hw1 : (w.alloc (.cells (madeCells #[.int .u8 0] N) 5)).heap[w.heap.size]? = some (.cells (madeCells #[.int .u8 0] N) 5 (0, 0)) := heap_alloc_new w _
  refine ⟨_, hmk, ⟨by simp [nI_len], .inr ⟨w.heap.size, N, _, rfl, Nat.le_refl _, hw1, Nat.le_refl _, by unfold maxLen; omega, by simp [madeCells], ?_⟩⟩, (Below.refl _ _).alloc (Nat.le_refl _) _⟩
  simp [toList_madeCells_one]
  unfold cs8 nI
  simp [List.map_replicate]

set_option maxHeartbeats 8000000 in
theorem many_walk (n g : Int) (hn0 : 0 ≤ n) (hn1 : n ≤ 255) (hg0 : 0 ≤ g) (hg1 : g ≤ 255) (w : World) (L : LaidR w) :
    Calls Tryd.prog 3 #[.int .u8 n, .int .u8 g] w fun e w' => e = .returned (.bool true) ∧ Below w.heap.size w w' := by
  obtain ⟨iM, hiM, hzM0, hzM1, hzM2⟩ := info_parts Tryd.infoMb
  have HL := hide L
  have HK := hide (known_17 w L)
  clear L
  go_enter Tryd.func3, Tryd.ntmps3
  go_upto_region 2 with fail
  go_wp2_with fail
  refine HK.out.mono ?_
  rintro e w1 ⟨rfl, hb1⟩
  have HB1 := hide hb1
  clear hb1 HK
  obtain ⟨r5, hr5, m5, t5⟩ := rem_u8 n hn0 hn1 5 (by decide)
  go_wp2_with fail
  have m5' : n % 5 = (r5 : Int) := m5
  rw [m5']
  clear m5 t5
  have hk0 : (98 : Int) + (r5 : Int) = ((98 + r5 : Nat) : Int) := by omega
  rw [hk0]
  have hk1 : 98 ≤ 98 + r5 := by omega
  have hk2 : 98 + r5 ≤ 102 := by omega
  generalize 98 + r5 = k at *
  have HKK : Hid ((r5 : Int) = (k : Int) - 98) := by show _ = _; omega
  clear hk0
  go_loopg [6, 7] k (fun g vl vi wr => ∃ i : Nat, i ≤ k ∧ g = k - i ∧ vi = .int .i64 (i : Int) ∧ Hid (OM wr w1.heap.size vl (List.replicate i mM)) ∧ Hid (Below w1.heap.size w1 wr))
  case atStart => exact ⟨0, by omega, by omega, rfl, OM.nil _ _, Below.refl _ _⟩
  case round =>
    obtain ⟨i, hi, rfl, rfl, HO, HB⟩ := hrel
    by_cases hlt : i < k
    · have hlt' : (i : Int) < (k : Int) := by omega
      have hlt2 : decide ((i : Int) < (k : Int)) = true := decide_eq_true hlt'
      obtain ⟨vs, hrow, hvl, hvi⟩ := HO.out.own
      rw [List.length_replicate] at hrow hvl
      obtain ⟨xs, hxs⟩ : ∃ xs, mbC.all vs = xs := ⟨_, rfl⟩
      rw [hxs] at hrow
      have HXS := hide hxs
      have HROW := hide hrow
      have HVI := hide hvi
      have hsz := HB.out.size
      clear hrow hxs hvi HO
      go_upto_region 7 with (first | (refine wpList_buildOne rfl _ 26 1 _ rfl [(0, .agg #[.string ⟨#[109]⟩, .slice none 0 0])] #[.string ⟨#[109]⟩, .slice none 0 0] (by kernel_rfl) Tryd.underlying23 (by kernel_rfl) ?_) | (at_builtin; refine wpList_append_own _ rfl _ _ 23 rfl w1.heap.size 26 iM (.agg #[.string ⟨#[]⟩, .slice none 0 0]) 2 40 Tryd.underlying23 hiM hzM0 hzM1 hzM2 rfl (by decide) _ _ _ rfl (HROW.out.alloc _) ⟨wr.heap.size, 0, none⟩ 1 1 [.string ⟨#[109]⟩, .slice none 0 0] rfl rfl (World.news_of_block (cs := #[.string ⟨#[109]⟩, .slice none 0 0]) (t := 26) (fr := (0, 0)) (heap_alloc_new wr _)) (by simp [Value.oneCell']) (by unfold maxLen; omega) (by omega) (by simp; omega) ?_))
      intro v2 w2 hown hgrow _
      have oG : OthT 26 (wr.alloc (.cells #[.string ⟨#[109]⟩, .slice none 0 0] 26)) w2 := OthT.grown (HROW.out.alloc _) hgrow
      have bA : Below wr.heap.size wr (wr.alloc (.cells #[.string ⟨#[109]⟩, .slice none 0 0] 26)) := (Below.refl _ _).alloc (Nat.le_refl _) _
      have HO2 : Hid (OM w2 w1.heap.size v2 (List.replicate (i + 1) mM)) := by
        rw [List.replicate_succ']
        have P := OM.push (w := wr.alloc (.cells #[.string ⟨#[109]⟩, .slice none 0 0] 26)) (W := w2) (B := w1.heap.size) (l := List.replicate i mM) (vs := vs) (u := ⟨[109], none, 0, 0⟩) (s := mM) (v' := v2) (by rw [hvl, List.length_replicate]) (fun j m hm => by
          obtain ⟨u, hu, ho⟩ := HVI.out j m hm
          exact ⟨u, hu, ho.below bA⟩) oG ⟨rfl, World.ownsRow_nil _ _ _ _⟩ (by rw [List.length_replicate, HXS.out]; exact hown)
        exact P
      have HB2 : Hid (Below w1.heap.size w1 w2) := by
        refine (HB.out.alloc hsz _).grown hgrow (by simp; omega) (fun q hq => ?_)
        have := row_ge HROW.out hq
        omega
      clear hown hgrow oG bA HROW HVI HXS HB hvl
      go_wp2_with fail
      go_roundg (k - (i + 1))
      case measure => omega
      case rel => exact ⟨i + 1, by omega, rfl, by go_num, HO2.out, HB2.out⟩
    · obtain rfl : i = k := by omega
      have hlt' : ¬ (i : Int) < (i : Int) := by omega
      have hlt2 : decide ((i : Int) < (i : Int)) = false := decide_eq_false hlt'
      obtain ⟨am, cm, rfl, hrm⟩ := HO.out.rm
      have HW := hide (rwrite_any am cm (List.replicate i mM) none 0 [] wr hrm (Rd.nothing _) (by rw [mm_tot]; omega) (by simp))
      have hcl := hrm.le
      have hcm := hrm.max
      rw [List.length_replicate] at HW hcl ⊢
      clear hrm HO
      go_wp2_with fail
      refine HW.out.mono ?_
      rintro e w3 ⟨v3, rfl, hbx⟩
      obtain ⟨a3, c3, rfl, hr3⟩ := hbx.rt
      have HB3 := hide (HB1.out.trans ((HB.out.trans (hbx.bel.mono HB.out.size)).mono HB1.out.size))
      have HRD := hide (read_any a3 c3 _ w3 hr3 (HL.out.then HB3.out) conAny)
      have HMR := hide (mm_read i (by omega))
      have h3c := hr3.le
      have h3m := hr3.max
      generalize arR 15 (wA (List.replicate i mM) []) = RO at *
      generalize (wA (List.replicate i mM) []).length = LN at *
      clear hbx hr3 HW
      go_wp2_with fail
      refine HRD.out.mono ?_
      rintro e w4 ⟨hb4, he⟩
      have HB4 := hide (HB3.out.trans (hb4.mono HB3.out.size))
      obtain ⟨m, a, c, a2, m2, c2, q, ev, rfl, hq1, hq2, hq3⟩ : ∃ (m : Nat) (a : Option Addr) (c : Nat) (a2 : Option Addr) (m2 c2 : Nat) (q : Bool) (ev : Int), e = .returned (.tuple #[.slice a m c, .slice a2 m2 c2, .int .i64 ev]) ∧ (ev == 0) = q ∧ decide ((i : Int) ≤ 100) = q ∧ (q = true → m = i) := by
        have hm := HMR.out
        cases RO with
        | none =>
          by_cases h100 : i ≤ 100
          · rw [if_pos h100] at hm
            obtain ⟨t, ht, _⟩ := hm
            cases ht
          · exact ⟨0, none, 0, none, 0, 0, false, 40, he, by decide, decide_eq_false (by omega), fun h => by cases h⟩
        | some t =>
          obtain ⟨a, c, a2, c2, he, _⟩ := he
          by_cases h100 : i ≤ 100
          · rw [if_pos h100] at hm
            obtain ⟨t', ht, htl⟩ := hm
            cases ht
            exact ⟨_, a, c, a2, _, c2, true, 0, he, by decide, decide_eq_true (by omega), fun _ => htl⟩
          · rw [if_neg h100] at hm
            cases hm
      obtain ⟨r4, hr4, m4, t4⟩ := rem_u8 g hg0 hg1 4 (by decide)
      have m4' : g % 4 = (r4 : Int) := m4
      have hN : (1048504 : Int) + 2 * (r4 : Int) = ((1048504 + 2 * r4 : Nat) : Int) := by omega
      have hN1 : 1048504 + 2 * r4 ≤ 2000000 := by omega
      have hN2 : (1048504 + 2 * r4) % 2 = 0 := by omega
      clear hb4 HRD HMR he HB3 HB m4 t4
      cases q
      all_goals
        first | (obtain rfl : m = i := hq3 rfl; clear hq3) | clear hq3
        go_upto_region 12 with fail
        generalize 1048504 + 2 * r4 = N at *
        obtain ⟨W5, hmk, hz5, hb5⟩ := zeros_new w4 N (by omega)
        obtain ⟨a5, c5, ev5, hr5⟩ := Rd.own hz5 (nI_bytes _)
        cases ev5
        have HR5 := hide hr5
        have HB5 := hide (HB4.out.trans (hb5.mono HB4.out.size))
        have b7 : Below W5.heap.size W5 (W5.alloc (.cells #[.string ⟨#[109]⟩, .slice (some ⟨w4.heap.size, 0, none⟩) N N] 26)) := (Below.refl _ _).alloc (Nat.le_refl _) _
        have h7 := heap_alloc_new W5 (.cells #[.string ⟨#[109]⟩, .slice (some ⟨w4.heap.size, 0, none⟩) N N] 26)
        have HB7 := hide (HB5.out.trans (b7.mono HB5.out.size))
        have hrm7 : Rmb (W5.alloc (.cells #[.string ⟨#[109]⟩, .slice (some ⟨w4.heap.size, 0, none⟩) N N] 26)) (some ⟨W5.heap.size, 0, none⟩) 1 1 (zM N) := by
          refine ⟨rfl, Nat.le_refl _, by decide, (fun h => by cases h), fun j x hx => ?_⟩
          match j, hx with
          | 0, hx =>
            cases hx
            refine ⟨W5.heap.size, 0, some ⟨w4.heap.size, 0, none⟩, N, rfl, (cell_of_row _ _ 0 _ _ (0, 0) h7).trans rfl, (cell_of_row _ _ 1 _ _ (0, 0) h7).trans ?_, ?_⟩
            · rw [List.length_replicate]; rfl
            · show Rd _ _ _ _ _
              rw [List.length_replicate]
              exact Rd.below hr5 b7
          | q + 1, hx => simp [zM] at hx
        have HW7 := hide (rwrite_any (some ⟨W5.heap.size, 0, none⟩) 1 (zM N) none 0 [] _ hrm7 (Rd.nothing _) (by simp [zM, tot]; omega) (by simp))
        have hzl := zM_len N hN1 hN2
        have HZR := hide (zM_read N hN1 hN2)
        have e1 : (zM N).length = 1 := rfl
        rw [e1] at HW7
        clear hz5 hb5 hr5 b7 h7 hrm7 e1
        go_wp2_with fail
        refine HW7.out.mono ?_
        rintro e w8 ⟨v8, rfl, hbx⟩
        obtain ⟨a8, c8, rfl, hr8⟩ := hbx.rt
        have HB8 := hide (HB7.out.trans (hbx.bel.mono HB7.out.size))
        have HRD := hide (read_any a8 c8 _ w8 hr8 (HL.out.then HB8.out) conAny)
        have h8c := hr8.le
        have h8m := hr8.max
        generalize arR 15 (wA (zM N) []) = RO8 at *
        rw [hzl] at HRD h8c ⊢
        generalize hLL : N + 68 = LL at *
        clear hbx hr8 HW7 hzl hLL
        go_wp2_with fail
        refine HRD.out.mono ?_
        rintro e w9 ⟨hb9, he⟩
        have HB9 := hide (HB8.out.trans (hb9.mono HB8.out.size))
        obtain ⟨q9, m9, a9, c9, i9, j9, k9, ev9, rfl, g1, g2⟩ : ∃ (q : Bool) (m : Nat) (a : Option Addr) (c : Nat) (a2 : Option Addr) (m2 c2 : Nat) (ev : Int), e = .returned (.tuple #[.slice a m c, .slice a2 m2 c2, .int .i64 ev]) ∧ (ev == 0) = q ∧ decide ((LL : Int) ≤ 1048576) = q := by
          have hm := HZR.out
          cases RO8 with
          | none =>
            by_cases h100 : LL ≤ 1048576
            · rw [if_pos h100] at hm
              obtain ⟨t, ht⟩ := hm
              cases ht
            · exact ⟨false, 0, none, 0, none, 0, 0, 40, he, by decide, decide_eq_false (by omega)⟩
          | some t =>
            obtain ⟨a, c, a2, c2, he, _⟩ := he
            by_cases h100 : LL ≤ 1048576
            · exact ⟨true, _, a, c, a2, _, c2, 0, he, by decide, decide_eq_true (by omega)⟩
            · rw [if_neg h100] at hm
              cases hm
        clear hb9 HRD HZR he
        cases q9
        all_goals
          go_wp2_with fail
          go_ret
          exact ⟨rfl, HB9.out⟩

end Go.Proofs.YtmmcnkdefpfkiaaDoor
