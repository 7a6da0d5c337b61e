/- The contract of package mem's Store. -/
import Derived.Test.YtggmeopohpbmlaaMemOps
namespace Go.Proofs.Ytggmeopohpbmlaa
open Go.RowKit Go.Maps
set_option linter.unusedVariables false

theorem map_set_u8 (l : List Int) (j : Nat) (x : Int) : (l.map (Value.int .u8)).set j (.int .u8 x) = (l.set j x).map (Value.int .u8) := by
  rw [List.map_set]

theorem bytesOf_take (v : Int) (n k : Nat) (h : n ≤ k) : (bytesOf v k).take n = bytesOf v n := by
  unfold bytesOf
  rw [← List.map_take, List.take_range, Nat.min_eq_left h]

/-- The memory behind a store. -/
noncomputable def stored (S : Mm) (a : Nat) (n : Int) (v : Int) : Mm := if numOk S a n 2 = true then S.lay a (bytesOf v n.toNat) else S

set_option maxHeartbeats 1600000 in
theorem store_any (m : Nat) (S : Mm) (F : Nat → Prop) (a : Nat) (n v : Int) (w : World) (h : PM w m S F) (ha : a ≤ 18446744073709551615) (hn0 : -9223372036854775808 ≤ n) (hn1 : n ≤ 9223372036854775807) (hv0 : 0 ≤ v) (hv1 : v ≤ 18446744073709551615) :
    Calls Try.prog 16 #[.pointer (some ⟨m, 0, none⟩), .int .u64 (a : Int), .int .i64 n, .int .u64 v] w fun e w' =>
      e = .returned (.bool (numOk S a n 2)) ∧ ∃ F', PM w' m (stored S a n v) F' ∧ Went F w F' w' := by
  have HW := hide (widthGood_any n)
  by_cases hw : WidthOk n
  · obtain ⟨k, rfl⟩ : ∃ k : Nat, n = k := ⟨n.toNat, by unfold WidthOk at hw; omega⟩
    have hk8 : 1 ≤ k ∧ k ≤ 8 := by unfold WidthOk at hw; omega
    have HMay := hide (may_any m S F a k 2 w h ha (by omega) and_2)
    have e1 : numOk S a (k : Int) 2 = mayB S a k 2 := by simp [numOk, hw]
    have HW2 : Hid (∀ w, Calls Try.prog 32 #[.int .i64 (k : Int)] w fun e w' => e = .returned (.bool true) ∧ w' = w) := fun w => by
      have := HW.out w
      rwa [decide_eq_true hw] at this
    clear HW
    by_cases hm : Mayp S a k 2
    · rw [mayB_yes hm] at HMay e1
      have e2 : stored S a (k : Int) v = S.lay a (bytesOf v k) := by simp [stored, e1]
      rw [e1, e2]
      have HM := hide hm
      have HP := hide h
      have hk1 := hk8.1
      have hk2 := hk8.2
      clear h hw e1 e2 hm hk8
      have hsl := slice8
      have hsl' := fun O w => hsl O k hk2 w
      clear hsl
      go_enter Try.func16, Try.ntmps16
      go_wp2_with fail
      refine (HW2.out _).mono ?_
      rintro e w' ⟨rfl, rfl⟩
      go_wp2_with fail
      refine HMay.out.mono ?_
      rintro e w' ⟨rfl, rfl⟩
      clear HMay HW2
      go_wp2
      go_loopw [22] (fun i wr => ∃ j : Nat, j ≤ 8 ∧ i = .int .i64 (j : Int) ∧ wr.ownsRow w'.heap.size 71 1 (.slice (some ⟨w'.heap.size, 0, none⟩) 8 8) 8 ((setOf (List.replicate 8 0) 0 v j).map (Value.int .u8)) ∧ Below w'.heap.size w' wr) (fun i _ => 8 - (intOf i).toNat)
      case atStart =>
        refine ⟨0, by omega, rfl, ?_, (Below.refl _ _).alloc (Nat.le_refl _) _⟩
        rw [setOf_zero]
        exact ⟨rfl, .inr ⟨w'.heap.size, 8, _, rfl, Nat.le_refl _, heap_alloc_new w' _, by omega, by unfold maxLen; omega, rfl, rfl⟩⟩
      case round =>
        obtain ⟨j, hj, rfl, hown2, hbel2⟩ := hrel
        by_cases hlt : j < 8
        · have hcell := hown2.cellAt (0 + j) (by omega)
          have hfz := hown2.frozenAt (0 + j)
          have hst := hown2.stored (0 + j) (.int .u8 (byteOf v j))
          rw [map_set_u8, setOf_succ (List.replicate 8 0) 0 v j (by simp; omega)] at hst
          rw [Nat.zero_add] at hcell hfz hst
          have HST := hide hst
          have HB2 := hide hbel2
          clear hown2 hst hbel2
          obtain ⟨u0, hu0⟩ : ∃ u0, ((setOf (List.replicate 8 0) 0 v j).map (Value.int .u8))[j]? = some u0 := ⟨_, List.getElem?_eq_getElem (by rw [List.length_map, setOf_length _ _ _ _ (by simp; omega)]; simp; omega)⟩
          rw [hu0] at hcell
          clear hu0
          go_wp2
          go_roundw
          case rel => exact ⟨j + 1, by omega, by go_num, HST.out.1, HB2.out.setCell (Nat.le_refl _) _⟩
          case measure => simp [intOf]; omega
        · obtain rfl : j = 8 := by omega
          have HO := hide hown2
          have HB := hide hbel2
          clear hown2 hbel2
          go_wp2_with fail
          obtain ⟨O, hO⟩ : ∃ O, O = w'.heap.size := ⟨_, rfl⟩
          rw [← hO]
          have hr : Rd wr (some ⟨O, 0, none⟩) k 8 (bytesOf v k) := by
            have h1 := HO.out
            rw [← hO] at h1
            have h2 : setOf (List.replicate 8 0) 0 v 8 = bytesOf v 8 := by simp [setOf]
            rw [h2] at h1
            refine ⟨bytesOf_length v k, hk2, by omega, bytesOf_bytes v k, (fun h => by cases h), fun x hx i hi => ?_⟩
            cases hx
            rw [show (⟨O, 0, none⟩ : Addr).add i = ⟨O, i, none⟩ by unfold Addr.add; split <;> simp_all, h1.cellAt i (by omega)]
            rw [← bytesOf_take v k 8 hk2]
            have h3 : i < (bytesOf v 8).length := by rw [bytesOf_length]; omega
            simp [h3, hi]
          have hFO : ∀ x, some (⟨O, 0, none⟩ : Addr) = some x → ¬ F x.block := fun x hx hf => by
            cases hx
            have := HP.out.flt O hf
            omega
          refine (put_any m S F a (some ⟨O, 0, none⟩) k 8 (bytesOf v k) wr (HP.out.below HB.out) ha hr (fun _ => hFO) (fun i h1 h2 h3 => HM.out.mapped and_2 h1 h2 (by omega))).mono ?_
          rintro e W ⟨rfl, F', hP, hW⟩
          have HP2 := hide hP
          have HW2 : Hid (Went F w' F' W) := ⟨(kept_of_below HB.out F).trans hW.1 (fun k hk => Or.inl hk), fun k hk => by
            rcases hW.2 k hk with h1 | h1
            · exact Or.inl h1
            · have := HB.out.size; exact Or.inr (by omega)⟩
          clear hP hW hr hFO hsl' HO HB
          go_wp2
          go_ret
          exact ⟨rfl, F', HP2.out, HW2.out⟩
    · rw [mayB_no hm] at HMay e1
      have e2 : stored S a (k : Int) v = S := by simp [stored, e1]
      rw [e1, e2]
      have HP := hide h
      clear h hw e1 e2 hm
      go_enter Try.func16, Try.ntmps16
      go_wp2_with fail
      refine (HW2.out _).mono ?_
      rintro e w' ⟨rfl, rfl⟩
      go_wp2_with fail
      refine HMay.out.mono ?_
      rintro e w' ⟨rfl, rfl⟩
      clear HMay HW2
      go_wp2
      go_ret
      exact ⟨rfl, F, HP.out, Went.refl _ _⟩
  · have e1 : numOk S a n 2 = false := by simp [numOk, hw]
    have e2 : stored S a n v = S := by simp [stored, e1]
    rw [e1, e2]
    have HW2 : Hid (∀ w, Calls Try.prog 32 #[.int .i64 n] w fun e w' => e = .returned (.bool false) ∧ w' = w) := fun w => by
      have := HW.out w
      rwa [decide_eq_false hw] at this
    have HP := hide h
    clear HW h hw e1 e2
    go_enter Try.func16, Try.ntmps16
    go_wp2_with fail
    refine (HW2.out _).mono ?_
    rintro e w' ⟨rfl, rfl⟩
    go_wp2_with fail
    go_ret
    exact ⟨rfl, F, HP.out, Went.refl _ _⟩

end Go.Proofs.Ytggmeopohpbmlaa
