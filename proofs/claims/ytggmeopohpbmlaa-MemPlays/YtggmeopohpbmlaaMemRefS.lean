/- Contracts of the document's Store, Write, Read. -/
import Derived.Test.YtggmeopohpbmlaaMemRefO
namespace Go.Proofs.Ytggmeopohpbmlaa
open Go.RowKit Go.Maps
set_option linter.unusedVariables false

set_option maxHeartbeats 1600000 in
theorem rstore_any (m : Nat) (S : Mm) (F : Nat → Prop) (a : Nat) (n v : Int) (w : World) (h : RM w m S F) (ha : a ≤ 18446744073709551615) (hn0 : -9223372036854775808 ≤ n) (hn1 : n ≤ 9223372036854775807) (hv0 : 0 ≤ v) (hv1 : v ≤ 18446744073709551615) :
    Calls Try.prog 17 #[.pointer (some ⟨m, 0, none⟩), .int .u64 (a : Int), .int .i64 n, .int .u64 v] w fun e w' =>
      e = .returned (.bool (numOk S a n 2)) ∧ RM w' m (stored S a n v) F ∧ Kept F w w' := by
  have HW := hide (width_any n)
  by_cases hw : WidthOk n
  · obtain ⟨k, rfl⟩ : ∃ k : Nat, n = k := ⟨n.toNat, by unfold WidthOk at hw; omega⟩
    have hk8 : 1 ≤ k ∧ k ≤ 8 := by unfold WidthOk at hw; omega
    have HMay := hide (rmay_any m S F a k 2 w h ha (by omega) and_2)
    have e1 : numOk S a (k : Int) 2 = mayB S a k 2 := by simp [numOk, hw]
    have HW2 : Hid (∀ w, Calls Try.prog 34 #[.int .i64 (k : Int)] w fun e w' => e = .returned (.bool true) ∧ w' = w) := fun w => by
      have := HW.out w
      rwa [decide_eq_true hw] at this
    clear HW
    by_cases hm : Mayp S a k 2
    · rw [mayB_yes hm] at HMay e1
      have e2 : stored S a (k : Int) v = S.lay a (bytesOf v k) := by simp [stored, e1]
      rw [e1, e2]
      have hbd := hm.bd h.good and_2 (by omega)
      have HM := hide hm
      have HP := hide h
      have hk1 := hk8.1
      have hk2 := hk8.2
      clear h hw e1 e2 hm hk8
      go_enter Try.func17, Try.ntmps17
      go_wp2_with fail
      refine (HW2.out _).mono ?_
      rintro e w' ⟨rfl, rfl⟩
      go_wp2_with fail
      refine HMay.out.mono ?_
      rintro e w' ⟨rfl, rfl⟩
      clear HMay HW2
      go_wp2
      go_loopw [9] (fun i wr => ∃ j : Nat, j ≤ k ∧ i = .int .i64 (j : Int) ∧ RM wr m (S.lay a (bytesOf v j)) F ∧ Kept F w' wr) (fun i _ => k - (intOf i).toNat)
      case atStart => exact ⟨0, by omega, rfl, by rw [show bytesOf v 0 = [] from rfl, Mm.lay_nil]; exact HP.out, Kept.refl _ _⟩
      case round =>
        obtain ⟨j, hj, rfl, hR, hK⟩ := hrel
        have HR := hide hR
        have HK := hide hK
        clear hR hK
        by_cases hlt : j < k
        · obtain ⟨A, hA⟩ : ∃ A : Nat, A = a + j := ⟨_, rfl⟩
          have hA' : (a : Int) + (j : Int) = (A : Int) := by omega
          have hby := byteOf_bd v j
          have HPut := hide (rput_any m (S.lay a (bytesOf v j)) F A (byteOf v j) wr HR.out (by omega) hby (HM.out.mapped and_2 (i := A / 4096) (by omega) (by omega) (by omega)))
          have HE : Hid ((S.lay a (bytesOf v j)).lay A [byteOf v j] = S.lay a (bytesOf v (j + 1))) := by
            show _ = _
            rw [bytesOf_succ, ← Mm.lay_more, bytesOf_length, hA]
          have HBy : Hid (byteOf v j = v / 2 ^ (8 * j) % 256) := rfl
          rw [HE.out] at HPut
          clear hA HE
          go_wp2_with fail
          refine HPut.out.mono ?_
          rintro e W ⟨rfl, hR, hK⟩
          have HR2 := hide hR
          have HK2 := hide (HK.out.trans hK (fun k hk => Or.inl hk))
          clear hR hK HPut HR HK
          go_wp2
          go_roundw
          case rel => exact ⟨j + 1, by omega, by go_num, HR2.out, HK2.out⟩
          case measure => simp [intOf]; omega
        · obtain rfl : j = k := by omega
          go_wp2
          go_ret
          exact ⟨rfl, HR.out, HK.out⟩
    · rw [mayB_no hm] at HMay e1
      have e2 : stored S a (k : Int) v = S := by simp [stored, e1]
      rw [e1, e2]
      have HP := hide h
      clear h hw e1 e2 hm
      go_enter Try.func17, Try.ntmps17
      go_wp2_with fail
      refine (HW2.out _).mono ?_
      rintro e w' ⟨rfl, rfl⟩
      go_wp2_with fail
      refine HMay.out.mono ?_
      rintro e w' ⟨rfl, rfl⟩
      clear HMay HW2
      go_wp2
      go_ret
      exact ⟨rfl, HP.out, Kept.refl _ _⟩
  · have e1 : numOk S a n 2 = false := by simp [numOk, hw]
    have e2 : stored S a n v = S := by simp [stored, e1]
    rw [e1, e2]
    have HW2 : Hid (∀ w, Calls Try.prog 34 #[.int .i64 n] w fun e w' => e = .returned (.bool false) ∧ w' = w) := fun w => by
      have := HW.out w
      rwa [decide_eq_false hw] at this
    have HP := hide h
    clear HW h hw e1 e2
    go_enter Try.func17, Try.ntmps17
    go_wp2_with fail
    refine (HW2.out _).mono ?_
    rintro e w' ⟨rfl, rfl⟩
    go_wp2_with fail
    go_ret
    exact ⟨rfl, HP.out, Kept.refl _ _⟩

set_option maxHeartbeats 1600000 in
theorem rwrite_any (m : Nat) (S : Mm) (F : Nat → Prop) (a0 : Nat) (a : Option Addr) (len cap : Nat) (bs : List Int) (w : World) (h : RM w m S F) (ha : a0 ≤ 18446744073709551615) (r : Rd w a len cap bs)
    (hsep : 0 < len → ∀ x, a = some x → ¬ F x.block) :
    Calls Try.prog 23 #[.pointer (some ⟨m, 0, none⟩), .int .u64 (a0 : Int), .slice a len cap] w fun e w' =>
      e = .returned (.bool (manyOk S a0 len 2)) ∧ RM w' m (if manyOk S a0 len 2 = true then S.lay a0 bs else S) F ∧ Kept F w w' := by
  have hle0 := r.le
  have hmx := r.max
  have hbl := r.length
  have HMay := hide (rmay_any m S F a0 len 2 w h ha (by omega) and_2)
  by_cases hle : len ≤ 65536
  · have hle' : decide ((65536 : Int) < (len : Int)) = false := by simp; omega
    by_cases hm : Mayp S a0 len 2
    · have e1 : manyOk S a0 len 2 = true := by simp [manyOk, hle, mayB_yes hm]
      rw [mayB_yes hm] at HMay
      rw [e1, if_pos rfl]
      have HM := hide hm
      have HP := hide h
      have HRd := hide r
      have HS := hide hsep
      have hbd : 0 < len → a0 + len ≤ 140737488355328 := fun h9 => hm.bd h.good and_2 (by omega)
      have HBd := hide hbd
      clear h hm r hsep e1 hbd
      go_enter Try.func23, Try.ntmps23
      go_wp2_with fail
      refine HMay.out.mono ?_
      rintro e w' ⟨rfl, rfl⟩
      clear HMay
      go_wp2
      go_loopw [7] (fun i wr => ∃ j : Nat, j ≤ len ∧ i = .int .i64 (j : Int) ∧ RM wr m (S.lay a0 (bs.take j)) F ∧ Kept F w' wr) (fun i _ => len - (intOf i).toNat)
      case atStart => exact ⟨0, by omega, rfl, by rw [List.take_zero, Mm.lay_nil]; exact HP.out, Kept.refl _ _⟩
      case round =>
        obtain ⟨j, hj, rfl, hR, hK⟩ := hrel
        have HR := hide hR
        have HK := hide hK
        clear hR hK
        by_cases hlt : j < len
        · have hbd := HBd.out (by omega)
          have hr2 := HK.out.rd HRd.out HS.out
          obtain ⟨b, o, hae, hc⟩ := hr2.addr (by omega)
          have hcj := hc j hlt
          have hyb := hr2.bytes.at j
          obtain ⟨y, hy⟩ : ∃ y, y = bs[j]?.getD 0 := ⟨_, rfl⟩
          rw [List.getD_eq_getElem?_getD, ← hy] at hcj
          rw [← hy] at hyb
          subst hae
          obtain ⟨A, hA⟩ : ∃ A : Nat, A = a0 + j := ⟨_, rfl⟩
          have hA' : (a0 : Int) + (j : Int) = (A : Int) := by omega
          have HPut := hide (rput_any m (S.lay a0 (bs.take j)) F A y wr HR.out (by omega) hyb (HM.out.mapped and_2 (i := A / 4096) (by omega) (by omega) (by omega)))
          have HE : Hid ((S.lay a0 (bs.take j)).lay A [y] = S.lay a0 (bs.take (j + 1))) := by
            show _ = _
            have e2 : (bs.take j).length = j := by simp; omega
            have e3 := Mm.lay_more S a0 (bs.take j) [y]
            rw [e2, ← hA] at e3
            rw [e3, hy, ← take_snoc bs j (by omega)]
          rw [HE.out] at HPut
          clear hA HE hr2 hc hy
          go_wp2_with fail
          refine HPut.out.mono ?_
          rintro e W ⟨rfl, hR, hK⟩
          have HR2 := hide hR
          have HK2 := hide (HK.out.trans hK (fun k hk => Or.inl hk))
          clear hR hK HPut HR HK
          go_wp2
          go_roundw
          case rel => exact ⟨j + 1, by omega, by go_num, HR2.out, HK2.out⟩
          case measure => simp [intOf]; omega
        · obtain rfl : j = len := by omega
          have HR2 : Hid (RM wr m (S.lay a0 bs) F) := by
            have h9 := HR.out
            rwa [List.take_of_length_le (by omega)] at h9
          clear HR
          go_wp2
          go_ret
          exact ⟨rfl, HR2.out, HK.out⟩
    · have e1 : manyOk S a0 len 2 = false := by simp [manyOk, mayB_no hm]
      rw [mayB_no hm] at HMay
      rw [e1, if_neg (by decide)]
      have HP := hide h
      clear h hm r hsep e1
      go_enter Try.func23, Try.ntmps23
      go_wp2_with fail
      refine HMay.out.mono ?_
      rintro e w' ⟨rfl, rfl⟩
      clear HMay
      go_wp2
      go_ret
      exact ⟨rfl, HP.out, Kept.refl _ _⟩
  · have e1 : manyOk S a0 len 2 = false := by simp [manyOk, hle]
    rw [e1, if_neg (by decide)]
    have HP := hide h
    clear h r hsep e1 HMay
    go_enter Try.func23, Try.ntmps23
    go_wp2_with fail
    go_ret
    exact ⟨rfl, HP.out, Kept.refl _ _⟩

theorem Mm.read_succ (S : Mm) (a n : Nat) : S.read a (n + 1) = S.read a n ++ [S.byte (a + n)] := by
  simp [Mm.read, List.range_succ]

set_option maxHeartbeats 1600000 in
theorem rread_any (m : Nat) (S : Mm) (F : Nat → Prop) (a n : Nat) (w : World) (h : RM w m S F) (ha : a ≤ 18446744073709551615) (hn : n ≤ 18446744073709551615) :
    Calls Try.prog 21 #[.pointer (some ⟨m, 0, none⟩), .int .u64 (a : Int), .int .u64 (n : Int)] w fun e w' =>
      (∃ b l c, e = .returned (.tuple #[.slice b l c, .bool (manyOk S a n 4)]) ∧ Rd w' b l c (if manyOk S a n 4 = true then S.read a n else [])) ∧ Below w.heap.size w w' := by
  have HMay := hide (rmay_any m S F a n 4 w h ha hn and_4)
  by_cases hle : n ≤ 65536
  · have hle' : decide ((65536 : Int) < (n : Int)) = false := by simp; omega
    by_cases hm : Mayp S a n 4
    · have e1 : manyOk S a n 4 = true := by simp [manyOk, hle, mayB_yes hm]
      rw [mayB_yes hm] at HMay
      rw [e1, if_pos rfl]
      have HM := hide hm
      have HP := hide h
      have HBd := hide (show 0 < n → a + n ≤ 140737488355328 from fun h9 => hm.bd h.good and_4 (by omega))
      have HGd := hide h.good
      obtain ⟨i0, hi, hz0, hz1, hz2⟩ := info_parts Try.info8
      clear h hm e1
      go_enter Try.func21, Try.ntmps21
      go_wp2_with fail
      refine HMay.out.mono ?_
      rintro e w' ⟨rfl, rfl⟩
      clear HMay
      go_wp2
      go_loopw [8, 9] (fun v i wr => ∃ (k : Nat) (v0 : Value), k ≤ n ∧ v0 = v ∧ i = .int .u64 (k : Int) ∧ Hid (wr.ownsRow w'.heap.size 5 1 v0 k ((S.read a k).map (Value.int .u8))) ∧ Hid (Below w'.heap.size w' wr)) (fun _ i _ => n - (intOf i).toNat)
      case atStart => exact ⟨0, _, by omega, rfl, rfl, World.ownsRow_nil _ _ _ _, Below.refl _ _⟩
      case round =>
        obtain ⟨k, v0, hk, rfl, rfl, HO, HB⟩ := hrel
        by_cases hlt : k < n
        · have hbd := HBd.out (by omega)
          have hsz : w'.heap.size ≤ wr.heap.size := HB.out.size
          have HLT := hide HO.out.lt
          obtain ⟨A, hA⟩ : ∃ A : Nat, A = a + k := ⟨_, rfl⟩
          have hA' : (a : Int) + (k : Int) = (A : Int) := by omega
          have hbb := HGd.out.byte A
          have HGt := hide (rget_any m S F A wr (HP.out.below HB.out) (by omega) (HM.out.mapped and_4 (i := A / 4096) (by omega) (by omega) (by omega)))
          have HS : Hid (S.read a (k + 1) = S.read a k ++ [S.byte A]) := by show _ = _; rw [Mm.read_succ, hA]
          clear hA
          generalize S.byte A = y at *
          go_wp2_with fail
          refine HGt.out.mono ?_
          rintro e wr ⟨rfl, rfl⟩
          clear HGt
          go_wp2_with (at_builtin; refine wpList_append_own _ rfl _ _ 30 rfl w'.heap.size 5 i0 (.int .u8 0) 1 1 Try.underlying30 hi hz0 hz1 hz2 rfl (by decide) _ _ _ rfl (HO.out.alloc _) ⟨wr.heap.size, 0, none⟩ 1 1 [.int .u8 y] rfl rfl ?d1 ?d2 ?d3 ?d4 ?d5 ?_)
          case d1 =>
            intro j u hj
            match j, hj with
            | 0, hj => simp at hj; subst hj; simp [Addr.add]
          case d2 => intro u hu; simp at hu; subst hu; rfl
          case d3 => unfold maxLen; omega
          case d4 => omega
          case d5 => simp; omega
          · intro v' w1 hown' hgrow _
            have R : Hid (w1.ownsRow w'.heap.size 5 1 v' (k + 1) ((S.read a (k + 1)).map (Value.int .u8))) := by
              rw [HS.out]; simpa using hide hown'
            have B1 : Hid (Below w'.heap.size w' w1) := hide ((HB.out.alloc hsz _).grown hgrow (by simp; omega) (fun j hj => (HLT.out j hj).1))
            clear hown' hgrow HO HB HLT HS
            go_wp2
            go_roundw
            case rel => exact ⟨k + 1, v', by omega, rfl, by go_num, R.out, B1.out⟩
            case measure => simp [intOf]; omega
        · obtain rfl : k = n := by omega
          have hr := Rd.own HO.out (Mm.read_bytes HGd.out a k)
          obtain ⟨b, c, rfl, hr⟩ := hr
          have HR := hide hr
          clear hr HO
          go_wp2
          go_ret2
          exact ⟨⟨b, k, c, rfl, HR.out⟩, HB.out⟩
    · have e1 : manyOk S a n 4 = false := by simp [manyOk, mayB_no hm]
      rw [mayB_no hm] at HMay
      rw [e1, if_neg (by decide)]
      clear h hm e1
      go_enter Try.func21, Try.ntmps21
      go_wp2_with fail
      refine HMay.out.mono ?_
      rintro e w' ⟨rfl, rfl⟩
      go_wp2
      go_ret2
      exact ⟨⟨none, 0, 0, rfl, Rd.nothing _⟩, Below.refl _ _⟩
  · have e1 : manyOk S a n 4 = false := by simp [manyOk, hle]
    rw [e1, if_neg (by decide)]
    clear h e1 HMay
    go_enter Try.func21, Try.ntmps21
    go_wp2_with fail
    go_ret2
    exact ⟨⟨none, 0, 0, rfl, Rd.nothing _⟩, Below.refl _ _⟩

end Go.Proofs.Ytggmeopohpbmlaa
