/- Contracts of package mem's Load, Fetch, Read, Write, Store. -/
import Derived.Test.YtggmeopohpbmlaaMemNum
namespace Go.Proofs.Ytggmeopohpbmlaa
open Go.RowKit Go.Maps
set_option linter.unusedVariables false

theorem and_4 : bits .and .i64 0 4 = 0 := by decide
theorem and_2 : bits .and .i64 0 2 = 0 := by decide
theorem and_1 : bits .and .i64 0 1 = 0 := by decide

/-- Whether n bytes from a on may be loaded, stored, as a number. -/
noncomputable def numOk (S : Mm) (a : Nat) (n : Int) (p : Int) : Bool := decide (WidthOk n) && mayB S a n.toNat p
noncomputable def loadV (S : Mm) (a : Nat) (n : Int) : Int := if numOk S a n 4 = true then num (S.read a n.toNat) else 0

theorem read_num_bd {S : Mm} (h : S.Good) (a n : Nat) (h8 : n ≤ 8) : 0 ≤ num (S.read a n) ∧ num (S.read a n) < 2 ^ (8 * n) ∧ num (S.read a n) ≤ 18446744073709551615 := by
  have h1 := Mm.read_bytes h a n
  have h2 := num_lt h1
  rw [Mm.read_length, pow_256] at h2
  have h3 := pow_le_64 h8
  exact ⟨num_nonneg h1, h2, by omega⟩

theorem load_any (m : Nat) (S : Mm) (F : Nat → Prop) (a : Nat) (n : Int) (w : World) (h : PM w m S F) (ha : a ≤ 18446744073709551615) (hn0 : -9223372036854775808 ≤ n) (hn1 : n ≤ 9223372036854775807) :
    Calls Try.prog 14 #[.pointer (some ⟨m, 0, none⟩), .int .u64 (a : Int), .int .i64 n] w fun e w' =>
      e = .returned (.tuple #[.int .u64 (loadV S a n), .bool (numOk S a n 4)]) ∧ Below w.heap.size w w' := by
  have HW := hide (widthGood_any n)
  by_cases hw : WidthOk n
  · obtain ⟨k, rfl⟩ : ∃ k : Nat, n = k := ⟨n.toNat, by unfold WidthOk at hw; omega⟩
    have hk8 : 1 ≤ k ∧ k ≤ 8 := by unfold WidthOk at hw; omega
    have HN := hide (number_any m S F a k 4 w h ha hk8.1 hk8.2 and_4)
    have e1 : numOk S a (k : Int) 4 = mayB S a k 4 := by simp [numOk, hw]
    have e2 : loadV S a (k : Int) = if mayB S a k 4 = true then num (S.read a k) else 0 := by simp [loadV, e1]
    rw [e1, e2]
    have HW2 : Hid (∀ w, Calls Try.prog 32 #[.int .i64 (k : Int)] w fun e w' => e = .returned (.bool true) ∧ w' = w) := fun w => by
      have := HW.out w
      rwa [decide_eq_true hw] at this
    generalize (if mayB S a k 4 = true then num (S.read a k) else 0) = v at *
    generalize mayB S a k 4 = t at *
    clear HW h hw e1 e2
    go_enter Try.func14, Try.ntmps14
    go_wp2_with fail
    refine (HW2.out _).mono ?_
    rintro e w' ⟨rfl, rfl⟩
    go_wp2_with fail
    refine HN.out.mono ?_
    rintro e w2 ⟨rfl, hb⟩
    have HB := hide hb
    clear hb
    go_wp2
    go_ret2
    exact ⟨rfl, HB.out⟩
  · have e1 : numOk S a n 4 = false := by simp [numOk, hw]
    have e2 : loadV S a n = 0 := by simp [loadV, e1]
    rw [e1, e2]
    have HW2 : Hid (∀ w, Calls Try.prog 32 #[.int .i64 n] w fun e w' => e = .returned (.bool false) ∧ w' = w) := fun w => by
      have := HW.out w
      rwa [decide_eq_false hw] at this
    clear HW h hw e1 e2
    go_enter Try.func14, Try.ntmps14
    go_wp2_with fail
    refine (HW2.out _).mono ?_
    rintro e w' ⟨rfl, rfl⟩
    go_wp2
    go_ret2
    exact ⟨rfl, Below.refl _ _⟩

noncomputable def fetchV (S : Mm) (a : Nat) : Int := if mayB S a 4 1 = true then num (S.read a 4) else 0

theorem fetchV_bd {S : Mm} (h : S.Good) (a : Nat) : 0 ≤ fetchV S a ∧ fetchV S a ≤ 4294967295 := by
  have h1 := read_num_bd h a 4 (by omega)
  have e : (2 : Int) ^ (8 * 4) = 4294967296 := by decide
  rw [e] at h1
  unfold fetchV
  split <;> omega

theorem fetch_any (m : Nat) (S : Mm) (F : Nat → Prop) (a : Nat) (w : World) (h : PM w m S F) (ha : a ≤ 18446744073709551615) :
    Calls Try.prog 18 #[.pointer (some ⟨m, 0, none⟩), .int .u64 (a : Int)] w fun e w' =>
      e = .returned (.tuple #[.int .u32 (fetchV S a), .bool (mayB S a 4 1)]) ∧ Below w.heap.size w w' := by
  have HN := hide (number_any m S F a 4 1 w h ha (by omega) (by omega) and_1)
  have hb := fetchV_bd h.good a
  have e2 : (if mayB S a 4 1 = true then num (S.read a 4) else 0) = fetchV S a := rfl
  rw [e2] at HN
  generalize fetchV S a = v at *
  generalize mayB S a 4 1 = t at *
  clear h e2
  go_enter Try.func18, Try.ntmps18
  go_wp2_with fail
  refine HN.out.mono ?_
  rintro e w2 ⟨rfl, hb⟩
  have HB := hide hb
  clear hb
  go_wp2
  go_ret2
  exact ⟨rfl, HB.out⟩

/-- Whether n bytes may be read, written at once. -/
noncomputable def manyOk (S : Mm) (a n : Nat) (p : Int) : Bool := decide (n ≤ 65536) && mayB S a n p

set_option maxHeartbeats 800000 in
theorem read_any (m : Nat) (S : Mm) (F : Nat → Prop) (a n : Nat) (w : World) (h : PM w m S F) (ha : a ≤ 18446744073709551615) (hn : n ≤ 18446744073709551615) :
    Calls Try.prog 20 #[.pointer (some ⟨m, 0, none⟩), .int .u64 (a : Int), .int .u64 (n : Int)] w fun e w' =>
      (manyOk S a n 4 = false → e = .returned (.tuple #[.slice none 0 0, .bool false])) ∧
      (manyOk S a n 4 = true → ∃ O, e = .returned (.tuple #[.slice (some ⟨O, 0, none⟩) n n, .bool true]) ∧ w.heap.size ≤ O ∧ w'.heap[O]? = some (.cells ((S.read a n).map (Value.int .u8)).toArray 5 (0, 0))) ∧
      Below w.heap.size w w' := by
  have HMay := hide (may_any m S F a n 4 w h ha hn and_4)
  by_cases hle : n ≤ 65536
  · by_cases hm : Mayp S a n 4
    · have e1 : manyOk S a n 4 = true := by simp [manyOk, hle, mayB_yes hm]
      rw [mayB_yes hm] at HMay
      rw [e1]
      obtain ⟨i0, hi, hz0, hz1, hz2⟩ := info_parts Try.info8
      have hmk := fun w => run_make (P := Try.prog) w 30 5 i0 (.int .u8 0) Try.underlying30 hi hz0 .u64 .u64 (n : Int) (n : Int) (by omega) (by omega) (by rw [hz2]; omega) (by omega)
      rw [hz1, Int.toNat_natCast] at hmk
      have hcs : (Value.int .u8 0).cells = #[.int .u8 0] := rfl
      rw [hcs, Nat.mul_one] at hmk
      obtain ⟨Y, hY⟩ : ∃ Y : List Value, Y = (madeCells #[.int .u8 0] n).toList := ⟨_, rfl⟩
      have hY2 : madeCells #[.int .u8 0] n = Y.toArray := by rw [hY]
      have hYl : Y.length = n := by rw [hY]; simp [madeCells]
      have hYz : ∀ j, j < n → Y[j]? = some (.int .u8 0) := fun j hj => by rw [hY]; unfold madeCells; simp [hj, Nat.mod_one]
      rw [hY2] at hmk
      have HM := hide hm
      have HP := hide h
      have HYl := hide hYl
      have HYz := hide hYz
      clear h hm hY hY2 hYl hYz e1 hcs hi hz0 hz1 hz2
      have hle' : decide ((65536 : Int) < (n : Int)) = false := by simp; omega
      go_enter Try.func20, Try.ntmps20
      go_wp2_with fail
      refine HMay.out.mono ?_
      rintro e w' ⟨rfl, rfl⟩
      clear HMay
      go_wp2_with fail
      obtain ⟨O, hO⟩ : ∃ O, O = w'.heap.size := ⟨_, rfl⟩
      rw [← hO]
      obtain ⟨U, hU⟩ : ∃ U, U = w'.alloc (.cells Y.toArray 5) := ⟨_, rfl⟩
      rw [← hU]
      have hBU : Below w'.heap.size w' U := by rw [hU]; exact (Below.refl _ _).alloc (Nat.le_refl _) _
      have hUO : U.heap[O]? = some (.cells Y.toArray 5 (0, 0)) := by rw [hU, hO]; exact heap_alloc_new w' _
      have hFO : ¬ F O := fun hf => by have := HP.out.flt O hf; omega
      refine (get_fills m S F a O n n 5 Y U (HP.out.below hBU) ha hUO hFO (Nat.le_refl _) (by omega) (by rw [HYl.out]; exact Nat.le_refl _) HYz.out (fun i h1 h2 h3 => HM.out.mapped and_4 h1 h2 (by omega))).mono ?_
      rintro e W ⟨rfl, ⟨R, hR, hfi⟩, hK⟩
      have hRe : R = (S.read a n).map (Value.int .u8) := by
        apply List.ext_getElem?
        intro j
        rw [hfi.2 j]
        by_cases hj : j < n
        · rw [if_pos hj, List.getElem?_map, Mm.read_at _ _ _ _ hj]; rfl
        · have h9 := HYl.out
          rw [if_neg hj, List.getElem?_eq_none (by omega), List.getElem?_eq_none (by rw [List.length_map, Mm.read_length]; omega)]
      subst hRe
      have HB : Hid (Below w'.heap.size w' W) := hBU.trans (hK.below hBU.size (fun k hk => by subst hk; rw [hO]; exact Nat.le_refl _))
      have HR := hide hR
      have HO : Hid (w'.heap.size ≤ O) := by rw [hO]; exact Nat.le_refl _
      clear hR hfi hK hUO hFO hBU hU HM HP HYl HYz hmk hO
      go_wp2
      go_ret2
      exact ⟨(fun h => by cases h), fun _ => ⟨O, rfl, HO.out, HR.out⟩, HB.out⟩
    · have e1 : manyOk S a n 4 = false := by simp [manyOk, hle, mayB_no hm]
      rw [mayB_no hm] at HMay
      rw [e1]
      have hle' : decide ((65536 : Int) < (n : Int)) = false := by simp; omega
      clear h hm e1
      go_enter Try.func20, Try.ntmps20
      go_wp2_with fail
      refine HMay.out.mono ?_
      rintro e w' ⟨rfl, rfl⟩
      go_wp2
      go_ret2
      exact ⟨fun _ => rfl, (fun h => by cases h), Below.refl _ _⟩
  · have e1 : manyOk S a n 4 = false := by simp [manyOk, hle]
    rw [e1]
    clear h e1 HMay
    go_enter Try.func20, Try.ntmps20
    go_wp2_with fail
    go_ret2
    exact ⟨rfl, Below.refl _ _⟩

set_option maxHeartbeats 800000 in
theorem write_any (m : Nat) (S : Mm) (F : Nat → Prop) (a0 : Nat) (a : Option Addr) (len cap : Nat) (bs : List Int) (w : World) (h : PM w m S F) (ha : a0 ≤ 18446744073709551615) (r : Rd w a len cap bs)
    (hsep : 0 < len → ∀ x, a = some x → ¬ F x.block) :
    Calls Try.prog 22 #[.pointer (some ⟨m, 0, none⟩), .int .u64 (a0 : Int), .slice a len cap] w fun e w' =>
      e = .returned (.bool (manyOk S a0 len 2)) ∧ ∃ F', PM w' m (if manyOk S a0 len 2 = true then S.lay a0 bs else S) F' ∧ Went F w F' w' := by
  have hle0 := r.le
  have hmx := r.max
  have HMay := hide (may_any m S F a0 len 2 w h ha (by omega) and_2)
  by_cases hle : len ≤ 65536
  · have hle' : decide ((65536 : Int) < (len : Int)) = false := by simp; omega
    by_cases hm : Mayp S a0 len 2
    · have e1 : manyOk S a0 len 2 = true := by simp [manyOk, hle, mayB_yes hm]
      rw [mayB_yes hm] at HMay
      rw [e1, if_pos rfl]
      have HPut := hide (put_any m S F a0 a len cap bs w h ha r hsep (fun i h1 h2 h3 => hm.mapped and_2 h1 h2 (by omega)))
      clear h hm r hsep e1
      go_enter Try.func22, Try.ntmps22
      go_wp2_with fail
      refine HMay.out.mono ?_
      rintro e w' ⟨rfl, rfl⟩
      clear HMay
      go_wp2_with fail
      refine HPut.out.mono ?_
      rintro e W ⟨rfl, F', hP, hW⟩
      have HP := hide hP
      have HW := hide hW
      clear hP hW HPut
      go_wp2
      go_ret
      exact ⟨rfl, F', HP.out, HW.out⟩
    · have e1 : manyOk S a0 len 2 = false := by simp [manyOk, mayB_no hm]
      rw [mayB_no hm] at HMay
      rw [e1, if_neg (by decide)]
      have HP := hide h
      clear h hm r hsep e1
      go_enter Try.func22, Try.ntmps22
      go_wp2_with fail
      refine HMay.out.mono ?_
      rintro e w' ⟨rfl, rfl⟩
      clear HMay
      go_wp2
      go_ret
      exact ⟨rfl, F, HP.out, Went.refl _ _⟩
  · have e1 : manyOk S a0 len 2 = false := by simp [manyOk, hle]
    rw [e1, if_neg (by decide)]
    have HP := hide h
    clear h r hsep e1 HMay
    go_enter Try.func22, Try.ntmps22
    go_wp2_with fail
    go_ret
    exact ⟨rfl, F, HP.out, Went.refl _ _⟩

end Go.Proofs.Ytggmeopohpbmlaa
