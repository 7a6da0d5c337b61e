/- The walk of SymMany. -/
import Derived.Test.YtonhahijblnfhaaSymKnown
namespace Go.Proofs.Ytonhahijblnfhaa
open Go.RowKit
set_option linter.unusedVariables false
set_option linter.unusedSimpArgs false

theorem sysL_zeros : ∀ k : Nat, sysL (List.replicate k sy0) = List.replicate (24 * k) 0
  | 0 => rfl
  | k + 1 => by
    rw [List.replicate_succ, sysL, sysL_zeros k, show syL sy0 = List.replicate 24 0 by decide, List.replicate_append_replicate]
    congr 1
    omega
theorem zeros_set (m j : Nat) (v : Value) : (List.replicate m v).set j v = List.replicate m v := by
  apply List.ext_getElem?
  intro i
  rw [List.getElem?_set]
  by_cases h : j = i
  · subst h
    by_cases h2 : j < m
    · simp [h2]
    · simp [h2]
  · simp [h]
theorem many_ok (k : Nat) (h1 : 1 ≤ k) (h2 : k ≤ 500) : symOk (List.replicate (24 * k) 0) [0] k := by
  rw [← sysL_zeros]
  have hn : (sysL (List.replicate k sy0)).length / 24 = k := by rw [sysL_len, List.length_replicate]; omega
  have ok : sy0.Ok := ⟨by decide, by decide, by decide, by decide, by decide, by decide, by decide⟩
  unfold symOk
  rw [hn]
  refine ⟨by rw [sysL_len]; omega, h1, h2, h1, Nat.le_refl _, fun i hi => ?_⟩
  rw [sysL_front _ i sy0 (by rw [List.getElem?_replicate, if_pos hi]) ok]
  show syB [0] sy0 i k = true
  unfold syB
  by_cases hz : i = 0
  · rw [if_pos hz]; rfl
  · rw [if_neg hz, show gtO [0] sy0.nm = some [] by decide +kernel]
    simp [hi, sy0]

set_option maxHeartbeats 3200000 in
set_option maxRecDepth 20000 in
theorem symmany_walk (n odd : Int) (w : World) (hn0 : 0 ≤ n) (hn1 : n ≤ 255) (ho0 : 0 ≤ odd) (ho1 : odd ≤ 255) :
    Calls Try.prog 5 #[.int .u8 n, .int .u8 odd] w fun e w' => e = .returned (.bool true) ∧ Below w.heap.size w w' := by
  obtain ⟨i8, hi8, hz0, hz1, hz2⟩ := info_parts Try.info8
  obtain ⟨r, hr⟩ : ∃ r : Nat, n % 5 = (r : Int) := ⟨(n % 5).toNat, by omega⟩
  obtain ⟨o, ho⟩ : ∃ r : Nat, odd % 2 = (r : Int) := ⟨(odd % 2).toNat, by omega⟩
  have hr4 : r ≤ 4 := by omega
  have ho4 : o ≤ 1 := by omega
  obtain ⟨k, hk⟩ : ∃ k : Nat, 498 + r = k := ⟨_, rfl⟩
  have hk' : 498 + (r : Int) = (k : Int) := by omega
  obtain ⟨m, hm⟩ : ∃ m : Nat, 24 * k + o = m := ⟨_, rfl⟩
  have hm' : 24 * (k : Int) + (o : Int) = (m : Int) := by omega
  have hk1 : 498 ≤ k := by omega
  have hk2 : k ≤ 502 := by omega
  have hm1 : 24 * k ≤ m := by omega
  have hm2 : m ≤ 12049 := by omega
  have KN := hide (known_12 w)
  have HM := hide hm
  clear hk hm
  go_enter Try.func5, Try.ntmps5
  go_wp2_with fail
  refine KN.out.mono ?_
  rintro e W1 ⟨rfl, bw1⟩
  have B1 := hide bw1
  have z1 := bw1.size
  clear bw1 KN
  go_upto_region 5 with (at_make; refine wpList_make_full _ rfl _ _ 23 rfl W1.heap.size 5 i8 (.int .u8 0) 1 Try.underlying23 hi8 hz0 hz1 .i64 .i64 (m : Int) (m : Int) m rfl rfl rfl rfl (by rw [hz2]; omega) (by unfold maxLen; omega) (Nat.le_refl _) ?_)
  intro W2 hown hgrow
  rw [toList_madeCells_one] at hown
  have O2 := hide hown
  have B2 := hide ((Below.refl W1.heap.size W1).grown hgrow (Nat.le_refl _) (fun k hk => by cases hk))
  obtain ⟨Y, hY⟩ : ∃ Y, W1.heap.size = Y := ⟨_, rfl⟩
  rw [hY] at O2 ⊢
  have hYB : W1.heap.size ≤ Y := by omega
  clear hown hgrow hY
  go_wp2
  go_loopg [7] (k - 1) (fun gg i wr => ∃ j : Nat, 1 ≤ j ∧ j ≤ k ∧ gg = k - j ∧ i = .int .i64 (j : Int) ∧ Hid (wr.ownsRow Y 5 1 (.slice (some ⟨Y, 0, none⟩) m m) m (List.replicate m (.int .u8 0))) ∧ Hid (Below W1.heap.size W1 wr))
  case atStart => exact ⟨1, by omega, by omega, by omega, rfl, O2, B2⟩
  case round =>
    obtain ⟨j, hj1, hjk, rfl, rfl, O, B⟩ := hrel
    clear O2 B2
    by_cases hlt : j < k
    · have hlt' : (j : Int) < (k : Int) := by omega
      obtain ⟨q, hq⟩ : ∃ q, 24 * j = q := ⟨_, rfl⟩
      have hq' : 24 * (j : Int) = (q : Int) := by omega
      have hqm : q < m := by omega
      have c0 : wr.cell? ⟨Y, q, none⟩ = some (.int .u8 0) := (O.out.cellAt q (by omega)).trans (by rw [List.getElem?_replicate, if_pos hqm])
      have f0 := O.out.frozenAt q
      have O3 : Hid ((wr.setCell ⟨Y, q, none⟩ (.int .u8 0)).ownsRow Y 5 1 (.slice (some ⟨Y, 0, none⟩) m m) m (List.replicate m (.int .u8 0))) := by
        have := (O.out.stored q (.int .u8 0)).1
        rw [zeros_set] at this
        exact this
      have B3 : Hid (Below W1.heap.size W1 (wr.setCell ⟨Y, q, none⟩ (.int .u8 0))) := hide (B.out.setCell hYB _)
      clear O B hq
      go_wp2
      go_roundg (k - (j + 1))
      case measure => omega
      case rel => exact ⟨j + 1, by omega, by omega, rfl, by go_num, O3, B3⟩
    · obtain rfl : j = k := by omega
      have hrow : wr.ownsRow Y 5 1 (.slice (some ⟨Y, 0, none⟩) m m) m ((List.replicate m (0 : Int)).map (Value.int .u8)) := by
        rw [List.map_replicate]
        exact O.out
      obtain ⟨a9, c9, h9, r9⟩ := Rd.own hrow (fun x hx => by rw [List.mem_replicate] at hx; omega)
      cases h9
      have b2 : Below wr.heap.size wr (wr.alloc (.cells #[.int .u8 0] 5)) := (Below.refl wr.heap.size wr).alloc (Nat.le_refl _) _
      have q2 : Rd (wr.alloc (.cells #[.int .u8 0] 5)) (some ⟨wr.heap.size, 0, none⟩) 1 1 [0] := Rd.row wr 5 (0, 0) [0] (fun x hx => by simp at hx; omega) (by decide)
      have PA := hide (symparse_any _ m m (List.replicate m 0) _ 1 1 [0] j _ (r9.below b2) q2 (by omega))
      have B2 := hide (B1.out.trans ((B.out.trans (b2.mono B.out.size)).mono z1))
      have z2 := B2.out.size
      have MO : Hid (j ≤ 500 → o = 0 → symOk (List.replicate m 0) [0] j) := fun h1 h2 => by
        have := many_ok j (by omega) h1
        rw [show 24 * j = m by have := HM.out; omega] at this
        exact this
      have w32 : IntKind.u32.wrap (j : Int) = (j : Int) := u32_wrap_id _ (by omega) (by omega)
      clear hrow r9 q2 O B b2
      go_wp2_with fail
      refine PA.out.mono ?_
      rintro e W5 ⟨hp, b6⟩
      have B6 := hide (B2.out.trans (b6.mono z2))
      clear b6 PA
      by_cases hok : j ≤ 500 ∧ o = 0
      · have hj' : (j : Int) ≤ 500 := by omega
        obtain rfl : o = 0 := hok.2
        have hs : symOk (List.replicate m 0) [0] j := MO.out hok.1 rfl
        rcases hp with ⟨_, a, c, a2, c2, he, h1, h2⟩ | ⟨h1, _⟩
        · subst he
          have ho2 : odd % 2 = 0 := by omega
          clear h1 h2 MO hs HM ho hok
          go_wp2
          go_ret
          exact ⟨ret_bool (by simp), B6.out⟩
        · exact absurd hs h1
      · have hs : ¬ symOk (List.replicate m 0) [0] j := fun h => by
          have h1 := h.1
          have h2 := h.2.2.1
          rw [List.length_replicate] at h1 h2
          have := HM.out
          omega
        rcases hp with ⟨h1, _⟩ | ⟨_, he⟩
        · exact absurd h1 hs
        · subst he
          clear MO hs HM
          by_cases hj : j ≤ 500
          · have hj' : (j : Int) ≤ 500 := by omega
            have ho2 : (odd % 2 == 0) = false := by simp; omega
            clear hok ho
            go_wp2
            go_ret
            exact ⟨ret_bool (by simp), B6.out⟩
          · have hj' : ¬ ((j : Int) ≤ 500) := by omega
            clear hok
            go_wp2
            go_ret
            exact ⟨ret_bool (by simp), B6.out⟩

end Go.Proofs.Ytonhahijblnfhaa
