/- Contracts of the document's May, num, Load, Store, Fetch, Read, Write. -/
import Derived.Test.YtggmeopohpbmlaaMemRef
import Derived.Laws.AppendOwnNone
namespace Go.Proofs.Ytggmeopohpbmlaa
open Go.RowKit Go.Maps
set_option linter.unusedVariables false

theorem RM.far_wrap {S : Mm} {a n : Nat} (ha : a ≤ 18446744073709551615) (hn : n ≤ 18446744073709551615) (h0 : n ≠ 0) (hf : 18446744073709551616 ≤ a + n - 1) : IntKind.u64.wrap ((a : Int) + ((n : Int) - 1)) = (a : Int) + ((n : Int) - 1) - 18446744073709551616 := by
  rw [IntKind.wrap_u64]; omega

set_option maxHeartbeats 1600000 in
theorem rmay_any (m : Nat) (S : Mm) (F : Nat → Prop) (a n : Nat) (p : Int) (w : World) (h : RM w m S F) (ha : a ≤ 18446744073709551615) (hn : n ≤ 18446744073709551615) (hp : bits .and .i64 0 p = 0) :
    Calls Try.prog 35 #[.pointer (some ⟨m, 0, none⟩), .int .u64 (a : Int), .int .u64 (n : Int), .int .i64 p] w fun e w' => e = .returned (.bool (mayB S a n p)) ∧ w' = w := by
  by_cases h0 : n = 0
  · rw [mayB_yes (Or.inl h0)]
    subst h0
    go_enter Try.func35, Try.ntmps35
    go_wp2
    go_ret
    exact ⟨rfl, rfl⟩
  by_cases h1 : 18446744073709551616 ≤ a + n - 1
  · rw [mayB_no (h.good.far h0 hp (by omega))]
    have hw := RM.far_wrap (S := S) ha hn h0 h1
    have hlt : decide ((a : Int) + ((n : Int) - 1) - 18446744073709551616 < (a : Int)) = true := by simp; omega
    go_enter Try.func35, Try.ntmps35
    go_wp2
    go_ret
    exact ⟨rfl, rfl⟩
  · obtain ⟨b, pb, db, h⟩ := h
    have hc := h.cell
    have HP := hide h
    clear h
    have hnw : decide ((a : Int) + ((n : Int) - 1) < (a : Int)) = false := by simp; omega
    obtain ⟨l, hl⟩ : ∃ l, l = (a + n - 1) / 4096 := ⟨_, rfl⟩
    have hl' : ((a : Int) + ((n : Int) - 1)) / 4096 = ((l : Nat) : Int) := by omega
    have HL := hide hl
    obtain ⟨f, hf⟩ : ∃ f, f = a / 4096 := ⟨_, rfl⟩
    have hf' : (a : Int) / 4096 = (f : Int) := by omega
    have HF := hide hf
    have hfl : f ≤ l := by omega
    have hll : l ≤ 4503599627370496 := by omega
    clear hf hl
    have hMay : Hid (Mayp S a n p ↔ ∀ i, f ≤ i → i ≤ l → bits .and .i64 (S.perm i) p ≠ 0) := by
      unfold Mayp
      rw [← HL.out, ← HF.out]
      exact ⟨fun h => h.resolve_left h0, Or.inr⟩
    go_enter Try.func35, Try.ntmps35
    go_wp2
    go_loop [9] (fun v => ∃ k : Nat, f ≤ k ∧ k ≤ l + 1 ∧ v = .int .u64 (k : Int) ∧ ∀ j, f ≤ j → j < k → bits .and .i64 (S.perm j) p ≠ 0) (fun v => l + 1 - (intOf v).toNat)
    case atStart => exact ⟨f, Nat.le_refl _, by omega, rfl, fun j h1 h2 => by omega⟩
    case round =>
      obtain ⟨k, hk1, hk2, rfl, hall⟩ := hrel
      have HA := hide hall
      clear hall
      by_cases hlt : k ≤ l
      · by_cases hz0 : S.perm k = 0
        · have hr := HP.out.look0 k (by omega) hz0
          have hno : Hid (¬ Mayp S a n p) := fun hm => hMay.out.1 hm k hk1 hlt (by rw [hz0]; exact hp)
          clear hz0
          go_wp2
          go_ret
          exact ⟨ret_bool (mayB_no hno.out).symm, rfl⟩
        · have hr := HP.out.look k (by omega) hz0
          have hc0 := HP.out.cell0 hz0
          obtain ⟨q, hq⟩ : ∃ q, q = S.perm k := ⟨_, rfl⟩
          rw [← hq] at hc0
          have HQ := hide hq
          clear hq hz0
          generalize pb k = P at hr hc0
          by_cases hz : bits .and .i64 q p = 0
          · have hno : Hid (¬ Mayp S a n p) := fun hm => hMay.out.1 hm k hk1 hlt (by rw [← HQ.out]; exact hz)
            go_wp2
            go_ret
            exact ⟨ret_bool (mayB_no hno.out).symm, rfl⟩
          · have hz' : (bits .and .i64 q p == 0) = false := by simpa using hz
            have HZ := hide hz
            clear hz
            go_wp2
            go_round
            case rel =>
              refine ⟨k + 1, by omega, by omega, by go_num, fun j h1 h2 => ?_⟩
              by_cases hjk : j = k
              · subst hjk; rw [← HQ.out]; exact HZ.out
              · exact HA.out j h1 (by omega)
            case measure => simp [intOf]; omega
      · have hyes : Hid (Mayp S a n p) := hMay.out.2 (fun i h1 h2 => HA.out i h1 (by omega))
        go_wp2
        go_ret
        exact ⟨ret_bool (mayB_yes hyes.out).symm, rfl⟩

theorem Mm.read_drop (S : Mm) (a n k : Nat) (h : k ≤ n) : (S.read a n).drop k = S.read (a + k) (n - k) := by
  apply List.ext_getElem?
  intro j
  rw [List.getElem?_drop]
  by_cases hj : j < n - k
  · rw [Mm.read_at _ _ _ _ (by omega), Mm.read_at _ _ _ _ hj]
    congr 2; omega
  · rw [List.getElem?_eq_none (by rw [Mm.read_length]; omega), List.getElem?_eq_none (by rw [Mm.read_length]; omega)]

set_option maxHeartbeats 1600000 in
theorem rnum_any (m : Nat) (S : Mm) (F : Nat → Prop) (a n : Nat) (w : World) (h : RM w m S F) (ha : a + n ≤ 140737488355328) (h8 : n ≤ 8) (hpg : ∀ i, a / 4096 ≤ i → i * 4096 < a + n → S.perm i ≠ 0) :
    Calls Try.prog 36 #[.pointer (some ⟨m, 0, none⟩), .int .u64 (a : Int), .int .i64 (n : Int)] w fun e w' => e = .returned (.int .u64 (num (S.read a n))) ∧ w' = w := by
  have HM := hide h
  have HG := hide hpg
  have hby := Mm.read_bytes h.good a n
  have hrl := S.read_length a n
  have hrat := fun k hk => S.read_at a n k hk
  generalize S.read a n = X at *
  clear h hpg
  go_enter Try.func36, Try.ntmps36
  go_wp2
  go_loop [7, 8] (fun v i => ∃ k : Nat, k ≤ n ∧ i = .int .i64 ((k : Int) - 1) ∧ v = .int .u64 (num (X.drop k))) (fun _ i => (intOf i + 1).toNat)
  case atStart => exact ⟨n, Nat.le_refl _, rfl, by rw [List.drop_eq_nil_of_le (by omega)]; rfl⟩
  case round =>
    obtain ⟨k, hk, rfl, rfl⟩ := hrel
    by_cases hlt : k = 0
    · subst hlt
      clear hrat
      go_wp2
      go_ret
      exact ⟨rfl, rfl⟩
    · obtain ⟨j, rfl⟩ : ∃ j, k = j + 1 := ⟨k - 1, by omega⟩
      have HU : Hid (bits .or .u64 (IntKind.u64.wrap (num (X.drop (j + 1)) * 256)) (X[j]?.getD 0) = num (X.drop j)) := num_down X j hby (by omega) (by omega)
      have e1 := hrat j (by omega)
      rw [e1, Option.getD_some] at HU
      have hbb := HM.out.good.byte (a + j)
      obtain ⟨A, hA⟩ : ∃ A : Nat, A = a + j := ⟨_, rfl⟩
      have hA' : (a : Int) + (j : Int) = (A : Int) := by omega
      have HGt := hide (rget_any m S F A w HM.out (by omega) (HG.out (A / 4096) (by omega) (by omega)))
      rw [← hA] at HU hbb
      generalize S.byte A = y at *
      obtain ⟨V, hV⟩ : ∃ V, V = num (X.drop (j + 1)) := ⟨_, rfl⟩
      rw [← hV] at HU
      rw [← hV]
      have ej : ((j + 1 : Nat) : Int) - 1 = j := by omega
      rw [ej]
      clear ej hV e1 hA hlt hrat hby
      go_wp2_with fail
      refine HGt.out.mono ?_
      rintro e w' ⟨rfl, rfl⟩
      go_wp2
      go_round
      case rel => exact ⟨j, by omega, by go_num, by rw [← HU.out]⟩
      case measure => simp [intOf]

theorem rload_any (m : Nat) (S : Mm) (F : Nat → Prop) (a : Nat) (n : Int) (w : World) (h : RM w m S F) (ha : a ≤ 18446744073709551615) (hn0 : -9223372036854775808 ≤ n) (hn1 : n ≤ 9223372036854775807) :
    Calls Try.prog 15 #[.pointer (some ⟨m, 0, none⟩), .int .u64 (a : Int), .int .i64 n] w fun e w' =>
      e = .returned (.tuple #[.int .u64 (loadV S a n), .bool (numOk S a n 4)]) ∧ w' = w := by
  have HW := hide (width_any n)
  by_cases hw : WidthOk n
  · obtain ⟨k, rfl⟩ : ∃ k : Nat, n = k := ⟨n.toNat, by unfold WidthOk at hw; omega⟩
    have hk8 : 1 ≤ k ∧ k ≤ 8 := by unfold WidthOk at hw; omega
    have HMay := hide (rmay_any m S F a k 4 w h ha (by omega) and_4)
    have e1 : numOk S a (k : Int) 4 = mayB S a k 4 := by simp [numOk, hw]
    have e2 : loadV S a (k : Int) = if mayB S a k 4 = true then num (S.read a k) else 0 := by simp [loadV, e1]
    rw [e1, e2]
    have HW2 : Hid (∀ w, Calls Try.prog 34 #[.int .i64 (k : Int)] w fun e w' => e = .returned (.bool true) ∧ w' = w) := fun w => by
      have := HW.out w
      rwa [decide_eq_true hw] at this
    clear HW
    by_cases hm : Mayp S a k 4
    · rw [mayB_yes hm] at HMay
      rw [mayB_yes hm, if_pos rfl]
      have hbd := hm.bd h.good and_4 (by omega)
      have HN := hide (rnum_any m S F a k w h (by omega) hk8.2 (fun i h1 h2 => hm.mapped and_4 h1 h2 (by omega)))
      clear h hw e1 e2 hm
      go_enter Try.func15, Try.ntmps15
      go_wp2_with fail
      refine (HW2.out _).mono ?_
      rintro e w' ⟨rfl, rfl⟩
      go_wp2_with fail
      refine HMay.out.mono ?_
      rintro e w' ⟨rfl, rfl⟩
      go_wp2_with fail
      refine HN.out.mono ?_
      rintro e w' ⟨rfl, rfl⟩
      go_wp2
      go_ret2
      exact ⟨rfl, rfl⟩
    · rw [mayB_no hm] at HMay
      rw [mayB_no hm, if_neg (by decide)]
      clear h hw e1 e2 hm
      go_enter Try.func15, Try.ntmps15
      go_wp2_with fail
      refine (HW2.out _).mono ?_
      rintro e w' ⟨rfl, rfl⟩
      go_wp2_with fail
      refine HMay.out.mono ?_
      rintro e w' ⟨rfl, rfl⟩
      go_wp2
      go_ret2
      exact ⟨rfl, rfl⟩
  · have e1 : numOk S a n 4 = false := by simp [numOk, hw]
    have e2 : loadV S a n = 0 := by simp [loadV, e1]
    rw [e1, e2]
    have HW2 : Hid (∀ w, Calls Try.prog 34 #[.int .i64 n] w fun e w' => e = .returned (.bool false) ∧ w' = w) := fun w => by
      have := HW.out w
      rwa [decide_eq_false hw] at this
    clear HW h hw e1 e2
    go_enter Try.func15, Try.ntmps15
    go_wp2_with fail
    refine (HW2.out _).mono ?_
    rintro e w' ⟨rfl, rfl⟩
    go_wp2_with fail
    go_ret2
    exact ⟨rfl, rfl⟩

theorem rfetch_any (m : Nat) (S : Mm) (F : Nat → Prop) (a : Nat) (w : World) (h : RM w m S F) (ha : a ≤ 18446744073709551615) :
    Calls Try.prog 19 #[.pointer (some ⟨m, 0, none⟩), .int .u64 (a : Int)] w fun e w' =>
      e = .returned (.tuple #[.int .u32 (fetchV S a), .bool (mayB S a 4 1)]) ∧ w' = w := by
  have HMay := hide (rmay_any m S F a 4 1 w h ha (by omega) and_1)
  have hb := fetchV_bd h.good a
  unfold fetchV at *
  by_cases hm : Mayp S a 4 1
  · rw [mayB_yes hm] at HMay hb
    rw [if_pos rfl] at hb
    rw [mayB_yes hm, if_pos rfl]
    have hbd := hm.bd h.good and_1 (by omega)
    have HN := hide (rnum_any m S F a 4 w h (by omega) (by omega) (fun i h1 h2 => hm.mapped and_1 h1 h2 (by omega)))
    generalize num (S.read a 4) = v at *
    clear h hm
    go_enter Try.func19, Try.ntmps19
    go_wp2_with fail
    refine HMay.out.mono ?_
    rintro e w' ⟨rfl, rfl⟩
    go_wp2_with fail
    refine HN.out.mono ?_
    rintro e w' ⟨rfl, rfl⟩
    go_wp2
    go_ret2
    exact ⟨rfl, rfl⟩
  · rw [mayB_no hm] at HMay
    rw [mayB_no hm, if_neg (by decide)]
    clear h hm hb
    go_enter Try.func19, Try.ntmps19
    go_wp2_with fail
    refine HMay.out.mono ?_
    rintro e w' ⟨rfl, rfl⟩
    go_wp2
    go_ret2
    exact ⟨rfl, rfl⟩

end Go.Proofs.Ytggmeopohpbmlaa
